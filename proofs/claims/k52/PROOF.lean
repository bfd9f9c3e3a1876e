import PyProof.Rows.All
import Wide.All
import OpenK.AllK
import Wide.FinOn
import PyProof.EqAt
import PyProof.EqKinds
import PyProof.TupleCall
import PyProof.ListMulAny
import KE.KIsAll
import Lean
import PySem.Challenge.RW_mirrorhouse_k52_whole_papers_to_the_leas
open Option renaming bind_some → g0a, map_some → g1o, some → g2s, getD_some → g2z
open List renaming getElem?_cons_zero → g0b, getElem?_cons_succ → g0c, length_cons → g0d, length_nil → g0e, map_cons → g0f, replicate → g0g, set_cons_zero → g0h, length_append → g0i, set_cons_succ → g0j, getD_eq_getElem?_getD → g0k, mem_cons_of_mem → g0m, nil_append → g0n, map_nil → g0o, cons_append → g0p, mem_cons → g0q, mem_cons_self → g0s, append_nil → g0t, size_toArray → g0u, mem_append_right → g0v, getElem?_map → g0w, append_assoc → g0x, getElem?_eq_some_iff → g0y, getElem?_eq_getElem → g0z, getElem?_append_right → g1a, getElem?_set → g1b, getElem?_eq_none → g1d, range → g1e, drop_eq_getElem_cons → g1f, getElem?_append_left → g1h, length_take → g1i, length_map → g1j, length_singleton → g1k, mem_append → g1m, map_map → g1n, replicate_succ → g1r, length_reverse → g1s, map_append → g1u, length_drop → g1v, lookup_cons → g1w, getElem?_replicate → g1x, lookup → g1y, drop_of_length_le → g1z, reverse_reverse → g2b, range_succ_eq_map → g2c, take_of_length_le → g2d, reverse_cons → g2f, map_congr_left → g2g, mem_of_getElem? → g2h, mem_of_mem_drop → g2j, mem_map → g2k, flatten_cons → g2l, take_append_drop → g2m, mem_of_mem_take → g2n, ext_getElem? → g2o, eq_nil_of_length_eq_zero → g2r, getElem?_reverse → g2u, singleton_append → g2v, mem_append_left → g2x, filterMap_cons → g3b, length → g3c
open Bool renaming false_eq_true → g0l, not_true → g1l, not_false → g1p, false_ne_true → g1q, and_eq_true → g2y
open Nat renaming le_refl → g0r, lt_of_lt_of_le → g1c, ne_of_lt → g1g, zero_add → g1t, le_trans → g2a, zero_le → g2e, pow_le_pow_right → g2i, min_eq_left → g2p, lt_succ_self → g2q, le_of_lt → g2t, lt_irrefl → g2w, min_eq_right → g3a, not_lt → g3d, lt_of_le_of_lt → g3e, add_sub_cancel_left → g3f
set_option Elab.async false
set_option linter.all false
set_option maxRecDepth 100000
namespace L2
open PySem PySem.Spec PyProof.Rows
abbrev Key := Sum Int Str
def DL : Key -> Value -> Bool
 | .inl k, v => Value.isInt k v
 | .inr x, v => Value.isStrOf x v
def NA (w : World) : Key -> Int
 | .inl k => hashInt k
 | .inr x => hashStr w x
theorem y6 : ∀ {k : Key} {v : Value}, DL k v = true -> (∃ i t, k = Sum.inl i /\ v = Value.int i t) \/ (∃ x t, k = Sum.inr x /\ v = Value.str x t)
 | .inl i, v, h => by
  obtain ⟨t, e⟩ := Value.isInt_shape (k := i) (v := v) h
  exact .inl ⟨i, t, rfl, e⟩
 | .inr x, v, h => by
  obtain ⟨t, e⟩ := Value.isStrOf_shape (x := x) (v := v) h
  exact .inr ⟨x, t, rfl, e⟩
theorem DK (a b : Int) : decide ((Sum.inl a : Key) = Sum.inl b) = (a == b) := by
 by_cases e : a = b
 ·subst e; simp
 ·have h : ¬ (Sum.inl a : Key) = Sum.inl b := fun q => e (Sum.inl.inj q)
  rw [decide_eq_false h]
  exact (beq_eq_false_iff_ne.mpr e).symm
theorem DD (a b : Str) : decide ((Sum.inr a : Key) = Sum.inr b) = decide (a = b) := by
 by_cases e : a = b
 ·subst e; simp
 ·have h : ¬ (Sum.inr a : Key) = Sum.inr b := fun q => e (Sum.inr.inj q)
  rw [decide_eq_false h, decide_eq_false e]
theorem DH (a : Int) (b : Str) : decide ((Sum.inl a : Key) = Sum.inr b) = false := decide_eq_false (fun q => nomatch q)
theorem DF (a : Str) (b : Int) : decide ((Sum.inr a : Key) = Sum.inl b) = false := decide_eq_false (fun q => nomatch q)
def JC (prog : Program) (w : World) : PySem.KeyKind prog w Key where
 is := DL
 hash := NA w
 inj := fun v a b ha hb => by
  rcases y6 ha with ⟨i, t, rfl, rfl⟩ | ⟨x, t, rfl, rfl⟩
  ·rcases y6 hb with ⟨j, u, rfl, e⟩ | ⟨y, u, rfl, e⟩
   ·injection e with e1 _; rw [e1]
   ·exact nomatch e
  ·rcases y6 hb with ⟨j, u, rfl, e⟩ | ⟨y, u, rfl, e⟩
   ·exact nomatch e
   ·injection e with e1 _; rw [e1]
 byValue := fun k v h => by
  rcases y6 h with ⟨i, t, rfl, rfl⟩ | ⟨x, t, rfl, rfl⟩ <;> rfl
 pyHash := fun hv h => by
  rcases y6 hv with ⟨i, t, rfl, rfl⟩ | ⟨x, t, rfl, rfl⟩
  ·exact wpAny_pyHash_int h
  ·exact wpAny_pyHash_str h
 eqBool := fun hu hv h => by
  rcases y6 hu with ⟨i, t, rfl, rfl⟩ | ⟨x, t, rfl, rfl⟩
  ·rcases y6 hv with ⟨j, u, rfl, rfl⟩ | ⟨y, u, rfl, rfl⟩
   ·rw [DK] at h; exact wpAny_eqBool_int h
   ·rw [DH] at h; exact SeqAt.EqAt.int_str i t y u _ _ _ _ h
  ·rcases y6 hv with ⟨j, u, rfl, rfl⟩ | ⟨y, u, rfl, rfl⟩
   ·rw [DF] at h; exact SeqAt.EqAt.str_int x t j u _ _ _ _ h
   ·rw [DD] at h; exact wpAny_eqBool_str h
 «strs» := fun k x t v h => by
  rcases y6 h with ⟨i, u, rfl, e⟩ | ⟨y, u, rfl, e⟩
  ·exact nomatch e
  ·injection e with e1 _
   subst e1
   cases v <;> rfl
inductive V where
 | non | bl (b : Bool) | int (i : Int) | str (x : Str) | byt (b : Array UInt8) | flt (b : UInt64) | ref (a : Addr) | ty (n : String)
 deriving DecidableEq
def xU : V -> Value -> Prop
 | .non, u => u = Value.none
 | .bl b, u => u = Value.bool b
 | .int i, u => ∃ t, u = Value.int i t
 | .str x, u => ∃ t, u = Value.str x t
 | .byt b, u => ∃ t, u = Value.bytes b t
 | .flt b, u => ∃ t, u = Value.float b t
 | .ref a, u => u = Value.ref a
 | .ty n, u => u = Value.type n
abbrev xf : List V -> List Value -> Prop := Paired xU
theorem xf.length {xs : List V} {us : List Value} (r : xf xs us) : xs.length = us.length := Paired.length r
theorem xf.get : ∀ {xs : List V} {us : List Value} {i : Nat} {x : V}, xf xs us -> xs[i]? = some x -> ∃ u, us[i]? = some u /\ xU x u
 | _, _, _, _, .nil, e => by simp at e
 | _, _, 0, _, .cons r _, e => by simp at e; subst e; exact ⟨_, rfl, r⟩
 | _, _, i + 1, x, .cons _ t, e => by
  obtain ⟨u, h1, h2⟩ := xf.get (i := i) (x := x) t (by simpa using e)
  exact ⟨u, by simpa using h1, h2⟩
theorem xf.append : ∀ {xs ys : List V} {us ws : List Value}, xf xs us -> xf ys ws -> xf (xs ++ ys) (us ++ ws)
 | _, _, _, _, .nil, s => s
 | _, _, _, _, .cons r t, s => .cons r (xf.append t s)
theorem xf.take : ∀ {xs : List V} {us : List Value} (n : Nat), xf xs us -> xf (xs.take n) (us.take n)
 | _, _, 0, _ => .nil
 | _, _, _ + 1, .nil => .nil
 | _, _, n + 1, .cons r t => .cons r (xf.take n t)
theorem xf.drop : ∀ {xs : List V} {us : List Value} (n : Nat), xf xs us -> xf (xs.drop n) (us.drop n)
 | _, _, 0, r => r
 | _, _, _ + 1, .nil => .nil
 | _, _, n + 1, .cons _ t => xf.drop n t
def KA : Option V -> Option Value -> Prop
 | some v, some u => xU v u
 | none, none => True
 | _, _ => False
def KV {κ : Type} : List (κ × V) -> List (κ × Value) -> Prop := Paired fun (p : κ × V) (q : κ × Value) => p.1 = q.1 /\ xU p.2 q.2
def kV : Key -> V
 | .inl i => .int i
 | .inr x => .str x
inductive HO where
  | lst (xs : List V)
  | tup (xs : List V)
  | dK (kvs : List (Key × V)) | dT (kvs : List (List Key × V))
  | set (S : Int -> Bool) (n : Nat)
  | ins (C dx : Addr) (fs : List (Str × V))
  | own (x : Addr)
  | xd (fs : List (Str × V))
  | met (f x : Addr)
  | rng (lo hi : Int)
  | frz (o : Obj) (u : HO)
  | tbl (ps : Array Value)
  | ext (φ : Heap -> Prop)
abbrev Hp := Addr -> Option HO
def upd (H : Hp) (a : Addr) (o : HO) : Hp := fun b => if b = a then some o else H b
theorem zz {H : Hp} {a : Addr} {o : HO} : upd H a o a = some o := by unfold upd; rw [if_pos rfl]
theorem zE {H : Hp} {a b : Addr} {o : HO} (h : b ≠ a) : upd H a o b = H b := by unfold upd; rw [if_neg h]
theorem Mr {H : Hp} {a b : Addr} {o u : HO} (h : H a = some o) (h' : H b = some u) (d : o ≠ u) : a ≠ b := by
 intro e; subst e; rw [h] at h'; exact d (g2s.inj h')
theorem zS {H : Hp} {a b : Addr} {o : HO} (h : H a = some o) (h' : H b = none) : a ≠ b := by
 intro e; subst e; rw [h] at h'; cases h'
section
variable (P : Program) (w : World)
def qq (H : Hp) (h : Heap) (a : Addr) : HO -> Prop
 | .lst xs => xs.length <= sizeLine /\ ∃ (its : List Value) (n : Nat), xf xs its /\ h.get? a = some { cls := .type "list", data := .seq its.toArray n }
 | .tup xs => xs.length <= sizeLine /\ ∃ its : List Value, xf xs its /\ IsTup h a its.toArray
 | .dK kvs => kvs.length <= sizeLine /\ (a == sysModules) = false /\ ∃ vs, KV kvs vs /\ h.DictOf (JC P w) a vs
 | .dT kvs => kvs.length <= sizeLine /\ (a == sysModules) = false /\ ∃ xs : List (List Key × Addr × Value),
   Paired (fun (p : List Key × V) (q : List Key × Addr × Value) => p.1 = q.1 /\ H q.2.1 = some (.tup (p.1.map kV)) /\ xU p.2 q.2.2) kvs xs ∧
   ∃ o es ep, h.get? a = some o /\ o.ExactDict /\ o.data = .dict es ep /\ es.toList = xs.map (entryOfKey (tupleKind (JC P w))) /\ (xs.map (·.1)).Nodup
 | .set S n => h.SetOf (intKind P w) a S n
 | .ins C dx fs => H dx = some (.own a) /\ fs.length <= 1000 /\ dx ≠ a /\ h.get? a = some (PySem.W.instObj C dx) ∧
   ∃ mA, h.Ns1 dx mA /\ (∀ f, KA (fs.lookup f) (mA f)) /\ PySem.Within mA (fs.map (·.1))
 | .own _ => ∃ o, h.get? a = some o
 | .xd fs => ∃ mA, h.Ns1 a mA /\ ∀ f, KA (fs.lookup f) (mA f)
 | .rng lo hi => ∃ t u v, h.get? a = some { cls := .type "range", data := .fields #[.int lo t, .int hi u, .int 1 v] }
 | .frz o u => h.get? a = some o /\ qq H h a u
 | .tbl ps => h.get? a = some { cls := .none, data := .fields ps }
 | .met f x => h.get? a = some (PySem.W.methodObj (.ref f) (.ref x))
 | .ext φ => φ h /\ (∃ o, h.get? a = some o) /\ ∀ h1 h2 : Heap, φ h1 -> (∀ o, h1.get? a = some o -> h2.get? a = some o) -> φ h2
def HOk (H : Hp) (h : Heap) : Prop := ∀ a o, H a = some o -> qq P w H h a o
end
section
variable {P : Program} {w : World} {H H' : Hp} {h h' : Heap} {a : Addr} {o : HO}
theorem qq.lt (x : qq P w H h a o) : a < h.objs.size := by
 cases o with
 | lst xs => obtain ⟨_, _, _, _, e⟩ := x; exact Heap.lt_size e
 | tup xs => obtain ⟨_, _, _, p⟩ := x; exact p.lt
 | dK kvs => obtain ⟨_, _, _, _, o, _, _, e, _⟩ := x; exact Heap.lt_size e
 | dT kvs => obtain ⟨_, _, _, _, o, _, _, e, _⟩ := x; exact Heap.lt_size e
 | set S n => obtain ⟨o, _, _, _, e, _⟩ := x; exact Heap.lt_size e
 | ins C dx fs => obtain ⟨_, _, _, e, _⟩ := x; exact Heap.lt_size e
 | own y => obtain ⟨_, e⟩ := x; exact Heap.lt_size e
 | xd fs => obtain ⟨_, ⟨_, _, _, e, _⟩, _⟩ := x; exact Heap.lt_size e
 | rng lo hi => obtain ⟨_, _, _, e⟩ := x; exact Heap.lt_size e
 | frz ob u => obtain ⟨e, _⟩ := x; exact Heap.lt_size e
 | tbl ps => exact Heap.lt_size (show h.get? a = some _ from x)
 | met f y => exact Heap.lt_size (show h.get? a = some _ from x)
 | ext φ => obtain ⟨_, ⟨_, e⟩, _⟩ := x; exact Heap.lt_size e
theorem Paired.mapP {α β : Type} {F G : α -> β -> Prop} : ∀ {l₁ : List α} {l₂ : List β}, Paired F l₁ l₂ -> (∀ a b, F a b -> G a b) -> Paired G l₁ l₂
 | _, _, .nil, _ => .nil
 | _, _, .cons r t, f => .cons (f _ _ r) (Paired.mapP t f)
theorem qq.stay (x : qq P w H h a o) (k : ∀ b u, (b = a \/ H b = some (.own a)) -> h.get? b = some u -> h'.get? b = some u)
  (ho : ∀ b, H b = some (.own a) -> H' b = some (.own a)) (ht : ∀ b xs, H b = some (.tup xs) -> H' b = some (.tup xs)) : qq P w H' h' a o := by
 induction o with
 | lst xs => obtain ⟨z, its, n, r, e⟩ := x; exact ⟨z, its, n, r, k _ _ (.inl rfl) e⟩
 | tup xs => obtain ⟨z, its, r, ob, e, c⟩ := x; exact ⟨z, its, r, ob, k _ _ (.inl rfl) e, c⟩
 | dK kvs => obtain ⟨z, y, vs, r, ob, es, ep, e, c⟩ := x; exact ⟨z, y, vs, r, ob, es, ep, k _ _ (.inl rfl) e, c⟩
 | dT kvs =>
  obtain ⟨z, y, xs, r, ob, es, ep, e, c⟩ := x
  exact ⟨z, y, xs, Paired.mapP r fun p q z => ⟨z.1, ht _ _ z.2.1, z.2.2⟩, ob, es, ep, k _ _ (.inl rfl) e, c⟩
 | set S n => obtain ⟨ob, es, ep, t, e, c⟩ := x; exact ⟨ob, es, ep, t, k _ _ (.inl rfl) e, c⟩
 | ins C dx fs =>
  obtain ⟨d, z, ne, e, mA, ⟨od, es, ep, e2, c⟩, r⟩ := x
  exact ⟨ho _ d, z, ne, k _ _ (.inl rfl) e, mA, ⟨od, es, ep, k _ _ (.inr d) e2, c⟩, r⟩
 | own y => obtain ⟨ob, e⟩ := x; exact ⟨ob, k _ _ (.inl rfl) e⟩
 | xd fs => obtain ⟨mA, ⟨od, es, ep, e, c⟩, r⟩ := x; exact ⟨mA, ⟨od, es, ep, k _ _ (.inl rfl) e, c⟩, r⟩
 | rng lo hi => obtain ⟨t, u, v, e⟩ := x; exact ⟨t, u, v, k _ _ (.inl rfl) e⟩
 | frz ob u ih => obtain ⟨e, q⟩ := x; exact ⟨k _ _ (.inl rfl) e, ih q⟩
 | tbl ps =>
  have e : h.get? a = some { cls := .none, data := .fields ps } := x
  show h'.get? a = some { cls := .none, data := .fields ps }
  exact k a _ (.inl rfl) e
 | met f y =>
  have e : h.get? a = some (PySem.W.methodObj (.ref f) (.ref y)) := x
  show h'.get? a = some (PySem.W.methodObj (.ref f) (.ref y))
  exact k a _ (.inl rfl) e
 | ext φ => obtain ⟨p, ⟨o, e⟩, st⟩ := x; exact ⟨st _ _ p fun o q => k _ _ (.inl rfl) q, ⟨o, k _ _ (.inl rfl) e⟩, st⟩
theorem HOk.lt (x : HOk P w H h) (e : H a = some o) : a < h.objs.size := (x a o e).lt
theorem HOk.fresh (x : HOk P w H h) (e : h.objs.size <= a) : H a = none := by
 cases q : H a with
 | none => rfl
 | some u => exact absurd (g1c (x.lt q) e) (g2w _)
theorem HOk.kept (x : HOk P w H h) (k : ∀ b u, h.get? b = some u -> h'.get? b = some u) : HOk P w H h' := fun a o e =>
 (x a o e).stay (fun b u _ q => k b u q) (fun _ q => q) fun _ _ q => q
theorem HOk.laid (x : HOk P w H h) (k : ∀ b u, h.get? b = some u -> h'.get? b = some u) (hp : h.objs.size <= a) (new : qq P w (upd H a o) h' a o) : HOk P w (upd H a o) h' := fun b u e => by
 have hn := x.fresh hp
 by_cases hb : b = a
 ·subst hb; rw [zz] at e; cases e; exact new
 ·rw [zE hb] at e
  exact (x b u e).stay (fun c v _ q => k c v q) (fun c q => by rw [zE (zS q hn)]; exact q) fun c xs q => by rw [zE (zS q hn)]; exact q
end
def Rd (H : Hp) (a : Addr) (u : HO) : Prop := H a = some u \/ ∃ o, H a = some (.frz o u)
theorem Rd.ok {P : Program} {w : World} {H : Hp} {h : Heap} {a : Addr} {u : HO} (r : Rd H a u) (x : HOk P w H h) : qq P w H h a u := by
 rcases r with r | ⟨o, r⟩
 ·exact x a u r
 ·obtain ⟨_, q⟩ := x a _ r
  exact q
def Mut : Option HO -> Prop
 | some (.lst _) => True
 | some (.dK _) => True
 | some (.dT _) => True
 | some (.set _ _) => True
 | some (.ins _ _ _) => True
 | some (.ext _) => True
 | _ => False
section
variable {P : Program} {w : World} {H : Hp} {h h' : Heap} {x e : Addr} {o' : HO}
theorem HOk.write (ok : HOk P w H h) (mu : Mut (H x)) (he : e = x \/ H e = some (.own x)) (k : ∀ b u, b ≠ e -> h.get? b = some u -> h'.get? b = some u) (heo : ∃ u, h'.get? e = some u)
  (new : qq P w (upd H x o') h' x o') : HOk P w (upd H x o') h' := fun b u q => by
 have nown : ∀ c y, H c = some (.own y) -> c ≠ x := fun c y r z => by subst z; rw [r] at mu; exact mu
 have ntup : ∀ c xs, H c = some (.tup xs) -> c ≠ x := fun c xs r z => by subst z; rw [r] at mu; exact mu
 by_cases hb : b = x
 ·subst hb; rw [zz] at q; cases q; exact new
 ·rw [zE hb] at q
  by_cases hbe : b = e
  ·have q' : H b = some (.own x) := by
    rcases he with z | z
    ·exact absurd (hbe.trans z) hb
    ·rw [hbe]; exact z
   rw [q] at q'; cases q'
   obtain ⟨v, hv⟩ := heo
   exact ⟨v, by rw [hbe]; exact hv⟩
  ·refine (ok b u q).stay (fun c v hc r => k c v ?_ r) (fun c r => by rw [zE (nown c b r)]; exact r) fun c xs r => by rw [zE (ntup c xs r)]; exact r
   rcases hc with rfl | hc
   ·exact hbe
   ·rintro rfl
    rcases he with z | z
    ·exact nown c b hc z
    ·rw [hc] at z; cases z; exact hb rfl
end
structure Un (fs ex : List Addr) (H H' : Hp) (h h' : Heap) : Prop where
 keep : ∀ b o, h.get? b = some o -> H b = none -> b ∉ fs -> b ∉ ex -> h'.get? b = some o
 slot : ∀ b o, h.get? b = some o -> H b = none -> b ∈ fs -> b ∉ ex -> ∃ sl, h'.get? b = some { o with slots := sl }
 free : ∀ b o, h.get? b = some o -> H b = none -> b ∉ ex -> H' b = none
 there : ∀ b o, h.get? b = some o -> b ∉ ex -> ∃ o', h'.get? b = some o'
 tups : ∀ b xs, H b = some (.tup xs) -> H' b = some (.tup xs)
 frzs : ∀ b o u, H b = some (.frz o u) -> H' b = some (.frz o u)
 tbls : ∀ b ps, H b = some (.tbl ps) -> ∃ more, H' b = some (.tbl (ps ++ more))
section
variable {fs fs' ex ex' : List Addr} {H H1 H2 : Hp} {h h1 h2 h' : Heap} {a x e : Addr} {o : HO}
theorem Un.any (u : Un fs ex H H1 h h1) {b : Addr} {ob : Obj} (q : h.get? b = some ob) (n : H b = none) (hx : b ∉ ex) : ∃ sl, h1.get? b = some { ob with slots := sl } := by
 by_cases hb : b ∈ fs
 ·exact u.slot b ob q n hb hx
 ·exact ⟨ob.slots, u.keep b ob q n hb hx⟩
theorem Un.kept (k : ∀ b u, h.get? b = some u -> h'.get? b = some u) : Un fs ex H H h h' :=
 ⟨fun b ob q _ _ _ => k b ob q, fun b ob q _ _ _ => ⟨ob.slots, k b ob q⟩, fun _ _ _ n _ => n, fun b ob q _ => ⟨ob, k b ob q⟩, fun _ _ q => q, fun _ _ _ q => q, fun _ ps q => ⟨#[], by rw [q]; simp⟩⟩
theorem Un.refl : Un fs ex H H h h := Un.kept fun _ _ q => q
theorem Un.laid (k : ∀ b u, h.get? b = some u -> h'.get? b = some u) (hp : h.objs.size <= a) (hn : H a = none) : Un fs ex H (upd H a o) h h' where
 keep := fun b u q _ _ _ => k b u q
 slot := fun b u q _ _ _ => ⟨u.slots, k b u q⟩
 free := fun b u q n _ => by rw [zE (g1g (g1c (Heap.lt_size q) hp))]; exact n
 there := fun b u q _ => ⟨u, k b u q⟩
 tups := fun b xs q => by rw [zE (zS q hn)]; exact q
 frzs := fun b u xs q => by rw [zE (zS q hn)]; exact q
 tbls := fun b ps q => ⟨#[], by rw [zE (zS q hn), q]; simp⟩
theorem Un.write (mu : Mut (H x)) (he : e = x \/ H e = some (.own x)) (k : ∀ b u, b ≠ e -> h.get? b = some u -> h'.get? b = some u) (heo : ∃ u, h'.get? e = some u) : Un fs ex H (upd H x o) h h' := by
 have hx : ∀ b, H b = none -> b ≠ x := fun b n z => by subst z; rw [n] at mu; exact mu
 have hb : ∀ b, H b = none -> b ≠ e := fun b n z => by
  subst z
  rcases he with r | r
  ·exact hx b n r
  ·rw [n] at r; cases r
 have hm : ∀ b u, H b = some u -> ¬ Mut (some u) -> b ≠ x := fun b u q nm z => by subst z; rw [q] at mu; exact nm mu
 refine ⟨fun b u q n _ _ => k b u (hb b n) q, fun b u q n _ _ => ⟨u.slots, k b u (hb b n) q⟩, fun b u q n _ => by rw [zE (hx b n)]; exact n, fun b u q _ => ?_,
  fun b xs q => by rw [zE (hm b _ q fun z => z)]; exact q, fun b u xs q => by rw [zE (hm b _ q fun z => z)]; exact q, fun b ps q => ⟨#[], by rw [zE (hm b _ q fun z => z), q]; simp⟩⟩
 by_cases hbe : b = e
 ·subst hbe; exact heo
 ·exact ⟨u, k b u hbe q⟩
end
def trk (h : Heap) (H : Hp) : List Addr := (g1e h.objs.size).filter fun a => (H a).isSome
def GF (h : Heap) (H : Hp) : Heap := PySem.W.hideAll h (trk h H)
theorem JV (h : Heap) (H : Hp) : (GF h H).objs.size = h.objs.size := PySem.W.hideAll_size _ _
theorem GE {h : Heap} {H : Hp} {b : Addr} {o : Obj} (e : h.get? b = some o) (n : H b = none) : (GF h H).get? b = some o :=
 PySem.W.hideAll_get _ e fun hm => by
  have q : (H b).isSome = true := (List.mem_filter.mp hm).2
  rw [n] at q; simp at q
theorem BA {h : Heap} {H : Hp} {b : Addr} {o : Obj} (e : (GF h H).get? b = some o) : h.get? b = some o /\ H b = none := by
 have e' : h.get? b = some o := PySem.W.of_hideAll (trk h H) e
 refine ⟨e', ?_⟩
 cases q : H b with
 | none => rfl
 | some x =>
  have hm : b ∈ trk h H := List.mem_filter.mpr ⟨List.mem_range.mpr (Heap.lt_size e'), by simp [q]⟩
  have z : (GF h H).get? b = none := PySem.W.hideAll_none (trk h H) hm
  rw [z] at e; cases e
def Cq (g h : Heap) (L : Addr) : List (Addr × Obj) := (g1e h.objs.size).filterMap fun a => if a = L \/ (g.get? a).isSome = true then none else (h.get? a).map fun o => (a, o)
def rest (g h : Heap) (L d : Addr) : List (Addr × Obj) := (Cq g h L).filter fun p => decide (p.1 ≠ d)
structure Mod (K : W.Frag) (mg : Str -> Option Value) (base : Heap) : Prop where
 kin : K.In base
 glob : base.Ns mainGlobals mg
 blt : ∃ mb, base.Ns builtinsNs mb /\ ∀ x : Str, x ≠ "__name__" -> mb x = bootBuiltins x
 nolimit : base.NoLimit
structure Cx where
 prog : Program
 w : World
 K : W.Frag
 mg : Str -> Option Value
 base : Heap
 A : Around
 N : List Str
 s₀ : Shared
 H₀ : Hp
 env : Env
 outer : List Env
 stack : List Env
 ex : List Addr
 fn : Str -> Bool
 calm : Bool
 pn : List (Addr × Obj)
 xe : Value -> Shared -> Prop
def frs (l : List Env) : List Addr := l.filterMap (·.frame)
abbrev Cx.fs (X : Cx) : List Addr := frs X.outer
def Vis (sc : Scope) (x : Str) : Prop := sc.names.lookup x = some .local \/ sc.names.lookup x = some .cell \/ sc.names.lookup x = some .free
def Loc (sc : Scope) (x : Str) : Prop := sc.names.lookup x = some .local \/ sc.names.lookup x = some .cell
def NJ (env : Env) (h : Heap) (m : Str -> Option Value) (x : Str) (u : Value) : Prop :=
 (env.kindOf x = some .local /\ m x = some u) \/ ((env.kindOf x = some .cell \/ env.kindOf x = some .free) /\ ∃ c, env.cells.lookup x = some c /\ h.IsCell c (some u))
structure Cx.Ok (X : Cx) : Prop where
 mod : Mod X.K X.mg X.base
 kind : X.env.scope.kind = .function
 glob : X.env.globals = mainGlobals
 blt : X.env.builtins = builtinsNs
 above : X.s₀.heap.objs.size <= X.env.locals
 inj : ∀ x y c, X.env.cells.lookup x = some c -> X.env.cells.lookup y = some c -> x = y
 has : ∀ x, (X.env.kindOf x = some .cell \/ X.env.kindOf x = some .free) -> ∃ c, X.env.cells.lookup x = some c
 cab : ∀ x c, X.fn x = true -> X.env.cells.lookup x = some c -> X.s₀.heap.objs.size <= c
 hd : X.calm = true -> X.A.handled = none
 frames : X.A.frames = some X.stack
 stk : X.stack = X.outer \/ (X.stack = X.env :: X.outer /\ X.env.frame = some X.env.locals)
 exf : ∀ b ∈ X.ex, b ≠ X.env.locals /\ ∀ x c, X.env.cells.lookup x = some c -> c ≠ b
 bs : ∀ b o, X.base.get? b = some o -> X.s₀.heap.get? b = some o /\ X.H₀ b = none
 bsz : X.base.objs.size <= X.s₀.heap.objs.size
 noex : ∀ b o, X.base.get? b = some o -> b ∉ X.ex
 exfs : ∀ b ∈ X.ex, b ∉ X.fs
 funs : X.s₀.heap.FunFrames X.base X.outer
 frf : ∀ b ∈ X.fs, X.H₀ b = none
structure Inv (X : Cx) (pins : List (Addr × Obj)) (σ : List (Option V)) (H : Hp) (s : Shared) : Prop where
 ok : X.Ok
 os : s.os = X.s₀.os
 bare : AllBare s.gens
 base : Un X.fs X.ex X.H₀ H X.s₀.heap s.heap
 loc : ∃ m, s.heap.Ns X.env.locals m /\ ∀ (i : Nat) (x : Str) (v : V), X.N[i]? = some x -> σ[i]? = some (some v) -> Vis X.env.scope x -> ∃ u, xU v u /\ NJ X.env s.heap m x u
 cell : ∀ x c, X.env.cells.lookup x = some c -> ∃ v, s.heap.IsCell c v
 free : H X.env.locals = none
 freeC : ∀ x c, X.env.cells.lookup x = some c -> H c = none
 pin : ∀ p ∈ X.pn ++ pins, s.heap.get? p.1 = some p.2 /\ H p.1 = none /\ p.1 ≠ X.env.locals /\ p.1 ∉ X.fs /\ ∀ v, p.2.data ≠ .cell v
 hok : HOk X.prog X.w H s.heap
 len : σ.length = X.N.length
section
variable {X : Cx} {pins : List (Addr × Obj)} {σ : List (Option V)} {H H' : Hp} {s : Shared} {h' : Heap}
theorem Cx.Ok.nofr (ok : X.Ok) {b : Addr} {o : Obj} (e : X.base.get? b = some o) : b ∉ X.fs := fun hb => by
 have := (ok.funs.mem hb).1
 rw [e] at this; cases this
theorem Inv.bs (I : Inv X pins σ H s) : ∀ b o, X.base.get? b = some o -> s.heap.get? b = some o /\ H b = none := fun b o e =>
 ⟨I.base.keep b o (I.ok.bs b o e).1 (I.ok.bs b o e).2 (I.ok.nofr e) (I.ok.noex b o e), I.base.free b o (I.ok.bs b o e).1 (I.ok.bs b o e).2 (I.ok.noex b o e)⟩
theorem Inv.bk (I : Inv X pins σ H s) : ∀ b o, X.base.get? b = some o -> s.heap.get? b = some o := fun b o e => (I.bs b o e).1
theorem Inv.mod (I : Inv X pins σ H s) : Mod X.K X.mg X.base := I.ok.mod
theorem Inv.kIn (I : Inv X pins σ H s) : X.K.In s.heap := I.ok.mod.kin.keeps I.bk
theorem Inv.lt (I : Inv X pins σ H s) : X.env.locals < s.heap.objs.size := let ⟨_, hn, _⟩ := I.loc; hn.lt
theorem Inv.sz (I : Inv X pins σ H s) : X.s₀.heap.objs.size <= s.heap.objs.size := g2a I.ok.above (g2t I.lt)
theorem Inv.nofs (I : Inv X pins σ H s) {a : Addr} (h : s.heap.objs.size <= a) : a ∉ X.fs := fun hb => by
 obtain ⟨_, o, ho, _⟩ := I.ok.funs.mem hb
 exact absurd (g1c (Heap.lt_size ho) (g2a I.sz h)) (g2w _)
theorem Inv.cne (I : Inv X pins σ H s) : ∀ x c, X.env.cells.lookup x = some c -> c ≠ X.env.locals := fun x c e z => by
 obtain ⟨v, o, ho, hd⟩ := I.cell x c e
 obtain ⟨m, ⟨o', es, ep, ho', hd', _⟩, _⟩ := I.loc
 rw [z, ho'] at ho; cases ho; rw [hd'] at hd; cases hd
theorem Inv.funs (I : Inv X pins σ H s) : s.heap.FunFrames X.base X.outer := by
 have all : ∀ (l : List Env), (∀ b ∈ frs l, b ∈ X.fs) -> X.s₀.heap.FunFrames X.base l -> s.heap.FunFrames X.base l := by
  intro l
  induction l with
  | nil => intro _ _; trivial
  | cons env r ih =>
   intro hs hl
   obtain ⟨hk, ⟨L, o, hf, hn, ho, hd⟩, hr⟩ := hl
   have hL : L ∈ X.fs := hs L (by unfold frs; rw [g3b, hf]; exact g0s)
   obtain ⟨sl, e⟩ := I.base.slot L o ho (I.ok.frf L hL) hL fun z => I.ok.exfs L z hL
   exact ⟨hk, ⟨L, _, hf, hn, e, hd⟩, ih (fun b hb => hs b (by unfold frs; rw [g3b, hf]; exact g0m _ hb)) hr⟩
 exact all X.outer (fun _ hb => hb) I.ok.funs
theorem Inv.stack (I : Inv X pins σ H s) : s.heap.FunFrames X.base X.stack := by
 rcases I.ok.stk with e | ⟨e, hf⟩
 ·rw [e]; exact I.funs
 ·rw [e]
  obtain ⟨m, hn, _⟩ := I.loc
  refine .cons (by rw [I.ok.kind]; decide) hf hn ?_ I.funs
  exact Heap.get?_none_of_le (g2a I.ok.bsz I.ok.above)
theorem Inv.stkSub (I : Inv X pins σ H s) : ∀ b ∈ frs X.stack, b ∈ X.env.locals :: X.fs := fun b hb => by
 rcases I.ok.stk with e | ⟨e, hf⟩
 ·rw [e] at hb; exact g0m _ hb
 ·rw [e] at hb
  unfold frs at hb
  rw [g3b, hf] at hb
  exact hb
theorem Inv.stkFree (I : Inv X pins σ H s) : ∀ b ∈ frs X.stack, H b = none := fun b hb => by
 rcases g0q.mp (I.stkSub b hb) with e | hb
 ·rw [e]; exact I.free
 ·obtain ⟨_, o, ho, _⟩ := I.ok.funs.mem hb
  exact I.base.free b o ho (I.ok.frf b hb) fun z => I.ok.exfs b z hb
theorem Inv.step {g' : Array GenState} {t' : Nat} {d' : Drawn} {ch : List Addr} (I : Inv X pins σ H s)
  (hch : ∀ b ∈ ch, (b ∈ X.ex \/ X.s₀.heap.objs.size <= b) /\ b ≠ X.env.locals /\ (∀ x c, X.env.cells.lookup x = some c -> c ≠ b) /\ ∀ p ∈ X.pn ++ pins, p.1 ≠ b)
  (keep : ∀ b o, b ≠ X.env.locals -> b ∉ X.fs -> b ∉ ch -> s.heap.get? b = some o -> H b = none -> h'.get? b = some o)
  (slot : ∀ b o, b ≠ X.env.locals -> b ∈ X.fs -> b ∉ ch -> s.heap.get? b = some o -> H b = none -> ∃ sl, h'.get? b = some { o with slots := sl }) (free : ∀ b o, b ∉ ch -> s.heap.get? b = some o -> H b = none -> H' b = none)
  (there : ∀ b o, b ∉ ch -> s.heap.get? b = some o -> ∃ o', h'.get? b = some o')
  (tups : ∀ b xs, H b = some (.tup xs) -> H' b = some (.tup xs)) (frzs : ∀ b o u, H b = some (.frz o u) -> H' b = some (.frz o u)) (tbls : ∀ b ps, H b = some (.tbl ps) -> ∃ more, H' b = some (.tbl (ps ++ more)))
  (ns : ∀ m, s.heap.Ns X.env.locals m -> h'.Ns X.env.locals m) (hok : HOk X.prog X.w H' h') (hg : AllBare g') :
  Inv X pins σ H' { s with heap := h', gens := g', drawn := d', toks := t' } := by
 have neL : ∀ b o, X.s₀.heap.get? b = some o -> b ≠ X.env.locals := fun b o e => g1g (g1c (Heap.lt_size e) I.ok.above)
 have neC : ∀ b o, X.s₀.heap.get? b = some o -> b ∉ X.ex -> b ∉ ch := fun b o e hx hb => by
  rcases (hch b hb).1 with z | z
  ·exact hx z
  ·exact absurd (g1c (Heap.lt_size e) z) (g2w _)
 have cellK : ∀ x c, X.env.cells.lookup x = some c -> ∀ v, s.heap.IsCell c v -> h'.IsCell c v := fun x c e v ⟨o, ho, hd⟩ => by
  have nch : c ∉ ch := fun z => (hch c z).2.2.1 x c e rfl
  by_cases hc : c ∈ X.fs
  ·obtain ⟨sl, q⟩ := slot c o (I.cne x c e) hc nch ho (I.freeC x c e)
   exact ⟨_, q, hd⟩
  ·exact ⟨o, keep c o (I.cne x c e) hc nch ho (I.freeC x c e), hd⟩
 refine ⟨I.ok, I.os, hg, ⟨fun b o e n hb hx => ?_, fun b o e n hb hx => ?_, fun b o e n hx => ?_, fun b o e hx => ?_, fun b xs e => tups b xs (I.base.tups b xs e), fun b o xs e => frzs b o xs (I.base.frzs b o xs e), fun b ps e => ?_⟩, ?_, fun x c e => ?_, ?_, fun x c e => ?_, fun p hp => ?_, hok, I.len⟩
 ·exact keep b o (neL b o e) hb (neC b o e hx) (I.base.keep b o e n hb hx) (I.base.free b o e n hx)
 ·obtain ⟨sl, e1⟩ := I.base.slot b o e n hb hx
  obtain ⟨sl', e2⟩ := slot b _ (neL b o e) hb (neC b o e hx) e1 (I.base.free b o e n hx)
  exact ⟨sl', e2⟩
 ·obtain ⟨o', e1⟩ := I.base.there b o e hx
  exact free b o' (neC b o e hx) e1 (I.base.free b o e n hx)
 ·obtain ⟨o', e1⟩ := I.base.there b o e hx
  exact there b o' (neC b o e hx) e1
 ·obtain ⟨m1, e1⟩ := I.base.tbls b ps e
  obtain ⟨m2, e2⟩ := tbls b _ e1
  exact ⟨m1 ++ m2, by rw [e2, Array.append_assoc]⟩
 ·obtain ⟨m, hn, hl⟩ := I.loc
  refine ⟨m, ns m hn, fun i x v e1 e2 e3 => ?_⟩
  obtain ⟨u, r, l⟩ := hl i x v e1 e2 e3
  refine ⟨u, r, ?_⟩
  rcases l with l | ⟨k, c, e, z⟩
  ·exact .inl l
  ·exact .inr ⟨k, c, e, cellK x c e _ z⟩
 ·obtain ⟨v, z⟩ := I.cell x c e
  exact ⟨v, cellK x c e v z⟩
 ·obtain ⟨m, ⟨o, _, _, ho, _⟩, _⟩ := I.loc
  exact free _ o (fun z => (hch _ z).2.1 rfl) ho I.free
 ·obtain ⟨v, o, ho, hd⟩ := I.cell x c e
  exact free c o (fun z => (hch c z).2.2.1 x c e rfl) ho (I.freeC x c e)
 ·obtain ⟨e, n, ne, nf, d⟩ := I.pin p hp
  have nch : p.1 ∉ ch := fun z => (hch p.1 z).2.2.2 p hp rfl
  exact ⟨keep p.1 p.2 ne nf nch e n, free p.1 p.2 nch e n, ne, nf, d⟩
theorem Inv.un {t' : Nat} (I : Inv X pins σ H s) (u : Un X.fs [] H H' s.heap h') (hok : HOk X.prog X.w H' h') : Inv X pins σ H' { s with heap := h', toks := t' } := by
 obtain ⟨m, ⟨o, es, ep, ho, r⟩, _⟩ := id I.loc
 obtain ⟨sl, hL⟩ := u.any ho I.free (by simp)
 exact I.step (g' := s.gens) (d' := s.drawn) (ch := []) (fun _ z => nomatch z) (fun b o _ hb _ e n => u.keep b o e n hb (by simp)) (fun b o _ hb _ e n => u.slot b o e n hb (by simp)) (fun b o _ e n => u.free b o e n (by simp)) (fun b o _ e => u.there b o e (by simp)) u.tups u.frzs u.tbls (fun m' hm => by
  obtain ⟨o', es', ep', ho', r'⟩ := hm
  rw [ho] at ho'; cases ho'
  exact ⟨_, es', ep', hL, r'⟩) hok I.bare
theorem Inv.call {g' : Array GenState} {t' : Nat} {d' : Drawn} {ch : List Addr} (I : Inv X pins σ H s) (u : Un (frs X.stack) ch H H' s.heap h') (hok : HOk X.prog X.w H' h') (hg : AllBare g')
  (hch : ∀ b ∈ ch, (b ∈ X.ex \/ X.s₀.heap.objs.size <= b) /\ b ≠ X.env.locals /\ (∀ x c, X.env.cells.lookup x = some c -> c ≠ b) /\ ∀ p ∈ X.pn ++ pins, p.1 ≠ b) :
  Inv X pins σ H' { s with heap := h', gens := g', drawn := d', toks := t' } := by
 obtain ⟨m, ⟨o, es, ep, ho, r⟩, _⟩ := id I.loc
 obtain ⟨sl, hL⟩ := u.any ho I.free fun z => (hch _ z).2.1 rfl
 exact I.step (ch := ch) hch (fun b o hL hb hc e n => u.keep b o e n (fun z => (g0q.mp (I.stkSub b z)).elim hL hb) hc) (fun b o _ _ hc e n => u.any e n hc) (fun b o hc e n => u.free b o e n hc) (fun b o hc e => u.there b o e hc) u.tups u.frzs u.tbls (fun m' hm => by
  obtain ⟨o', es', ep', ho', r'⟩ := hm
  rw [ho] at ho'; cases ho'
  exact ⟨_, es', ep', hL, r'⟩) hok hg
theorem Inv.turned {t' : Nat} {it : Addr} (I : Inv X pins σ H s) (k : ∀ b o, b ≠ it -> s.heap.get? b = some o -> h'.get? b = some o) (hn : H it = none) (hL : it ≠ X.env.locals)
  (h1 : it ∈ X.ex \/ X.s₀.heap.objs.size <= it) (h2 : ∀ x c, X.env.cells.lookup x = some c -> c ≠ it) (h3 : ∀ p ∈ X.pn ++ pins, p.1 ≠ it) : Inv X pins σ H { s with heap := h', toks := t' } := by
 have nit : ∀ b u, H b = some u -> b ≠ it := fun b u e z => by rw [z, hn] at e; cases e
 refine I.step (g' := s.gens) (d' := s.drawn) (ch := [it]) (fun b hb => ?_) (fun b o _ _ hc e _ => k b o (fun z => hc (by simp [z])) e) (fun b o _ _ hc e _ => ⟨o.slots, k b o (fun z => hc (by simp [z])) e⟩) (fun _ _ _ _ n => n)
  (fun b o hc e => ⟨o, k b o (fun z => hc (by simp [z])) e⟩) (fun _ _ e => e) (fun _ _ _ e => e) (fun b ps e => ⟨#[], by rw [e]; simp⟩) (fun m hm => ?_) (fun b u e => ?_) I.bare
 ·have e : b = it := by simpa using hb
  subst e
  exact ⟨h1, hL, h2, h3⟩
 ·obtain ⟨o, es, ep, ho, r⟩ := hm
  exact ⟨o, es, ep, k _ o (Ne.symm hL) ho, r⟩
 ·refine (I.hok b u e).stay (fun c v hc q => k c v ?_ q) (fun _ q => q) fun _ _ q => q
  rcases hc with z | z
  ·rw [z]; exact nit b u e
  ·exact nit c _ z
theorem Inv.tok (I : Inv X pins σ H s) (t : Nat) : Inv X pins σ H { s with toks := t } := I.un (h' := s.heap) (t' := t) Un.refl I.hok
theorem Inv.kept {t' : Nat} (I : Inv X pins σ H s) (k : ∀ b u, s.heap.get? b = some u -> h'.get? b = some u) : Inv X pins σ H { s with heap := h', toks := t' } := I.un (Un.kept k) (I.hok.kept k)
theorem Inv.laid {a : Addr} {o : HO} {t' : Nat} (I : Inv X pins σ H s) (k : ∀ b u, s.heap.get? b = some u -> h'.get? b = some u) (hp : s.heap.objs.size <= a) (new : qq X.prog X.w (upd H a o) h' a o) :
  Inv X pins σ (upd H a o) { s with heap := h', toks := t' } := I.un (Un.laid k hp (I.hok.fresh hp)) (I.hok.laid k hp new)
theorem Inv.write {x e : Addr} {o : HO} {t' : Nat} (I : Inv X pins σ H s) (mu : Mut (H x)) (he : e = x \/ H e = some (.own x)) (k : ∀ b u, b ≠ e -> s.heap.get? b = some u -> h'.get? b = some u) (heo : ∃ u, h'.get? e = some u)
  (new : qq X.prog X.w (upd H x o) h' x o) : Inv X pins σ (upd H x o) { s with heap := h', toks := t' } := I.un (Un.write mu he k heo) (I.hok.write mu he k heo new)
theorem Inv.pins_of {pins' : List (Addr × Obj)} (I : Inv X pins σ H s) (h : ∀ p ∈ pins', s.heap.get? p.1 = some p.2 /\ H p.1 = none /\ p.1 ≠ X.env.locals /\ p.1 ∉ X.fs /\ ∀ v, p.2.data ≠ .cell v) : Inv X pins' σ H s :=
 ⟨I.ok, I.os, I.bare, I.base, I.loc, I.cell, I.free, I.freeC, fun p hp => (g1m.mp hp).elim (fun z => I.pin p (g2x _ z)) (h p), I.hok, I.len⟩
theorem V3 {N : List Str} (hN : N.Nodup) {i j : Nat} {x : Str} (a : N[i]? = some x) (b : N[j]? = some x) : i = j := by
 obtain ⟨h1, e1⟩ := g0y.mp a
 obtain ⟨h2, e2⟩ := g0y.mp b
 exact (List.getElem_inj hN).mp (e1.trans e2.symm)
theorem Xy {M : Model} {A : Around} {E : Value -> Shared -> Prop} {i : Nat} {x : Str} {v : V} {u : Value} {Q : Unit -> Shared -> Prop} (I : Inv X pins σ H s) (hN : X.N.Nodup) (hi : X.N[i]? = some x) (hx : Loc X.env.scope x) (r : xU v u)
  (h : ∀ s', Inv X pins (σ.set i (some v)) H s' -> (∃ a, Heap.SameBut a s.heap s'.heap /\ (a = X.env.locals \/ X.env.cells.lookup x = some a)) -> Q () s') (hf : X.fn x = true \/ X.env.scope.names.lookup x = some .local := by first | exact .inl rfl | exact .inr rfl | assumption) : wpAny M A (storeName X.env x u) Q E s := by
 obtain ⟨m, hn, hl⟩ := id I.loc
 have hcls : (X.env.scope.kind == .class || (X.env.scope.kind == .module && X.env.locals != X.env.globals)) = false := by rw [I.ok.kind]; rfl
 have hiσ : i < σ.length := by rw [I.len]; exact (g0y.mp hi).1
 have cne := I.cne
 have tracked : ∀ {a : Addr} {h' : Heap}, (∃ o, s.heap.get? a = some o /\ H a = none) -> Heap.SameBut a s.heap h' -> HOk X.prog X.w H h' := fun {a h'} ha hs b ob e => by
  obtain ⟨_, _, hfree⟩ := ha
  refine (I.hok b ob e).stay (fun c w' hc q => (hs.2 c ?_).trans q) (fun _ q => q) fun _ _ q => q
  rintro rfl
  rcases hc with rfl | hc
  ·rw [hfree] at e; cases e
  ·rw [hfree] at hc; cases hc
 rcases hx with hk | hk
 ·refine wpAny_storeName_local hk hn (fun h' hn' hs => ?_) hcls
  obtain ⟨oL, _, _, hoL, _⟩ := id hn
  refine h _ ⟨I.ok, I.os, I.bare, ⟨fun b o e n hb hx => ?_, fun b o e n hb hx => ?_, I.base.free, fun b o e hx => ?_, I.base.tups, I.base.frzs, I.base.tbls⟩, ⟨_, hn', fun j y v' e1 e2 e3 => ?_⟩, fun y c e => ?_, I.free, I.freeC, fun p hp => ?_, tracked ⟨oL, hoL, I.free⟩ hs, by simpa using I.len⟩ ⟨_, hs, .inl rfl⟩
  ·exact (hs.2 b (g1g (g1c (Heap.lt_size e) I.ok.above))).trans (I.base.keep b o e n hb hx)
  ·obtain ⟨sl, e1⟩ := I.base.slot b o e n hb hx
   exact ⟨sl, (hs.2 b (g1g (g1c (Heap.lt_size e) I.ok.above))).trans e1⟩
  ·obtain ⟨o', e1⟩ := I.base.there b o e hx
   exact ⟨o', (hs.2 b (g1g (g1c (Heap.lt_size e) I.ok.above))).trans e1⟩
  ·by_cases hj : j = i
   ·subst hj
    rw [hi] at e1; cases e1
    rw [List.getElem?_set_self hiσ] at e2
    cases e2
    exact ⟨u, r, .inl ⟨hk, by simp⟩⟩
   ·rw [List.getElem?_set_ne (Ne.symm hj)] at e2
    obtain ⟨u', r', q⟩ := hl j y v' e1 e2 e3
    refine ⟨u', r', ?_⟩
    rcases q with ⟨k, e⟩ | ⟨k, c, e, z⟩
    ·refine .inl ⟨k, ?_⟩
     have : y ≠ x := fun e => hj (V3 hN e1 (e ▸ hi))
     simp [this, e]
    ·exact .inr ⟨k, c, e, z.sameBut hs (cne y c e)⟩
  ·obtain ⟨w', z⟩ := I.cell y c e
   exact ⟨w', z.sameBut hs (cne y c e)⟩
  ·obtain ⟨e, n, ne, nf, d⟩ := I.pin p hp
   exact ⟨(hs.2 p.1 ne).trans e, n, ne, nf, d⟩
 ·have hfn : X.fn x = true := by
   rcases hf with z | z
   ·exact z
   ·rw [z] at hk; cases hk
  obtain ⟨c, hc⟩ := I.ok.has x (.inl hk)
  obtain ⟨w', z⟩ := I.cell x c hc
  refine wpAny_storeName_cell I.ok.kind hk hc z (fun h' hc' hs => ?_)
  obtain ⟨oc, hoc, hocd⟩ := id z
  refine h { s with heap := h' } ⟨I.ok, I.os, I.bare, ⟨fun b o e n hb hx => ?_, fun b o e n hb hx => ?_, I.base.free, fun b o e hx => ?_, I.base.tups, I.base.frzs, I.base.tbls⟩, ⟨m, hn.sameBut hs (Ne.symm (cne x c hc)), fun j y v' e1 e2 e3 => ?_⟩, fun y c' e => ?_, I.free, I.freeC, fun p hp => ?_, tracked ⟨oc, hoc, I.freeC x c hc⟩ hs, by simpa using I.len⟩ ⟨c, hs, .inr hc⟩
  ·exact (hs.2 b (g1g (g1c (Heap.lt_size e) (I.ok.cab x c hfn hc)))).trans (I.base.keep b o e n hb hx)
  ·obtain ⟨sl, e1⟩ := I.base.slot b o e n hb hx
   exact ⟨sl, (hs.2 b (g1g (g1c (Heap.lt_size e) (I.ok.cab x c hfn hc)))).trans e1⟩
  ·obtain ⟨o', e1⟩ := I.base.there b o e hx
   exact ⟨o', (hs.2 b (g1g (g1c (Heap.lt_size e) (I.ok.cab x c hfn hc)))).trans e1⟩
  ·by_cases hj : j = i
   ·subst hj
    rw [hi] at e1; cases e1
    rw [List.getElem?_set_self hiσ] at e2
    cases e2
    exact ⟨u, r, .inr ⟨.inl hk, c, hc, hc'⟩⟩
   ·rw [List.getElem?_set_ne (Ne.symm hj)] at e2
    obtain ⟨u', r', q⟩ := hl j y v' e1 e2 e3
    refine ⟨u', r', ?_⟩
    rcases q with q | ⟨k, c', e, z'⟩
    ·exact .inl q
    ·refine .inr ⟨k, c', e, z'.sameBut hs ?_⟩
     rintro rfl
     exact hj (V3 hN e1 (I.ok.inj _ _ _ e hc ▸ hi))
  ·by_cases hcc : c' = c
   ·subst hcc; exact ⟨_, hc'⟩
   ·obtain ⟨w2, z2⟩ := I.cell y c' e
    exact ⟨w2, z2.sameBut hs hcc⟩
  ·obtain ⟨e, n, ne, nf, d⟩ := I.pin p hp
   refine ⟨(hs.2 p.1 ?_).trans e, n, ne, nf, d⟩
   intro q
   rw [q, hoc] at e
   have q' : oc = p.2 := g2s.inj e
   exact d w' (by rw [<- q']; exact hocd)
theorem VI {M : Model} {A : Around} {E : Value -> Shared -> Prop} {i : Nat} {x : Str} {v : V} {u : Value} {Q : Unit -> Shared -> Prop} (I : Inv X pins σ H s) (hN : X.N.Nodup) (hi : X.N[i]? = some x) (hx : Loc X.env.scope x) (r : xU v u)
  (h : ∀ s', Inv X pins (σ.set i (some v)) H s' -> Q () s') (hf : X.fn x = true \/ X.env.scope.names.lookup x = some .local := by first | exact .inl rfl | exact .inr rfl | assumption) : wpAny M A (storeName X.env x u) Q E s :=
 Xy I hN hi hx r (fun s' I' _ => h s' I') hf
theorem Inv.call' {s' : Shared} {ch : List Addr} (I : Inv X pins σ H s) (ho : s'.os = s.os) (u : Un (frs X.stack) ch H H' s.heap s'.heap) (hok : HOk X.prog X.w H' s'.heap) (hg : AllBare s'.gens)
  (hch : ∀ b ∈ ch, (b ∈ X.ex \/ X.s₀.heap.objs.size <= b) /\ b ≠ X.env.locals /\ (∀ x c, X.env.cells.lookup x = some c -> c ≠ b) /\ ∀ p ∈ X.pn ++ pins, p.1 ≠ b) : Inv X pins σ H' s' := by
 obtain ⟨h', g', d', t', o'⟩ := s'
 have e : o' = s.os := ho
 subst e
 exact I.call (g' := g') (t' := t') (d' := d') u hok hg hch
end
abbrev XK := Value -> Option Addr -> Hp -> Prop
abbrev St := List (Option V)
abbrev VK := V -> Hp -> Prop
abbrev TE := St -> Hp -> VK -> Prop
abbrev TT := St -> Hp -> (Bool -> Hp -> Prop) -> Prop
abbrev TA := St -> Hp -> (List V -> Hp -> Prop) -> Prop
structure Ends where
 nx : St -> Hp -> Prop
 rt : VK
 bk : St -> Hp -> Prop := fun _ _ => False
 ct : St -> Hp -> Prop := fun _ _ => False
abbrev TS := Ends -> St -> Hp -> Prop
def EP (X : Cx) (pins : List (Addr × Obj)) (σ : St) (Q : VK) (u : Value) (s' : Shared) : Prop := ∃ v H', Inv X pins σ H' s' /\ xU v u /\ Q v H'
def TP (X : Cx) (pins : List (Addr × Obj)) (σ : St) (Q : Bool -> Hp -> Prop) (b : Bool) (s' : Shared) : Prop := ∃ H', Inv X pins σ H' s' /\ Q b H'
def AP (X : Cx) (pins : List (Addr × Obj)) (σ : St) (Q : List V -> Hp -> Prop) (us : List Value) (s' : Shared) : Prop := ∃ vs H', Inv X pins σ H' s' /\ xf vs us /\ Q vs H'
def SP (X : Cx) (pins : List (Addr × Obj)) (D : Ends) (f : Flow) (s' : Shared) : Prop :=
 match f with
 | .next => ∃ σ' H', Inv X pins σ' H' s' /\ D.nx σ' H'
 | .brk => ∃ σ' H', Inv X pins σ' H' s' /\ D.bk σ' H'
 | .cont => ∃ σ' H', Inv X pins σ' H' s' /\ D.ct σ' H'
 | .ret u => ∃ v σ' H', Inv X pins σ' H' s' /\ xU v u /\ D.rt v H'
def PE (X : Cx) (e : Expr) (t : TE) : Prop :=
 ∀ (pins : List (Addr × Obj)) (s : Shared) (σ : St) (H : Hp) (Q : VK), Inv X pins σ H s -> t σ H Q -> wpAny (model X.prog X.w) X.A (eval e X.env) (EP X pins σ Q) X.xe s
def PT (X : Cx) (e : Expr) (t : TT) : Prop :=
 ∀ (pins : List (Addr × Obj)) (s : Shared) (σ : St) (H : Hp) (Q : Bool -> Hp -> Prop), Inv X pins σ H s -> t σ H Q -> wpAny (model X.prog X.w) X.A (isTrue e X.env (eval e X.env)) (TP X pins σ Q) X.xe s
def PW (X : Cx) (e : Expr) (t : TT) : Prop :=
 ∀ (whole : Sem Value) (pins : List (Addr × Obj)) (s : Shared) (σ : St) (H : Hp) (Q : Bool -> Hp -> Prop), Inv X pins σ H s -> t σ H Q -> wpAny (model X.prog X.w) X.A (isTrue e X.env whole) (TP X pins σ Q) X.xe s
theorem PW.pt {X : Cx} {e : Expr} {t : TT} (h : PW X e t) : PT X e t := h _
def PA (X : Cx) (es : List Expr) (t : TA) : Prop :=
 ∀ (pos : Pos) (pins : List (Addr × Obj)) (s : Shared) (σ : St) (H : Hp) (Q : List V -> Hp -> Prop), Inv X pins σ H s -> t σ H Q -> wpAny (model X.prog X.w) X.A (spliced (backTo pos (starEach es X.env))) (AP X pins σ Q) X.xe s
def PS (X : Cx) (st : Stmt) (t : TS) : Prop :=
 ∀ (pins : List (Addr × Obj)) (s : Shared) (σ : St) (H : Hp) (D : Ends), Inv X pins σ H s -> t D σ H -> wpAny (model X.prog X.w) X.A (exec st X.env) (SP X pins D) X.xe s
def PSs (X : Cx) (st : List Stmt) (t : TS) : Prop :=
 ∀ (pins : List (Addr × Obj)) (s : Shared) (σ : St) (H : Hp) (D : Ends), Inv X pins σ H s -> t D σ H -> wpAny (model X.prog X.w) X.A (execs st X.env) (SP X pins D) X.xe s
theorem thn {α : Type} {t : Sem α} {Q Q' : α -> Shared -> Prop} {M : Model} {A : Around} {E : Value -> Shared -> Prop} {s : Shared} (h : wpAny M A t Q E s) (hQ : ∀ a s, Q a s -> Q' a s) : wpAny M A t Q' E s := wpAny_mono h hQ fun _ _ x => x
section
variable {X : Cx}
theorem bin {a b : Expr} {ta tb : TE} (ha : PE X a ta) (hb : PE X b tb) {pins : List (Addr × Obj)} {s : Shared} {σ : St} {H : Hp} {R : V -> V -> Hp -> Prop} (I : Inv X pins σ H s) (h : ta σ H fun x H1 => tb σ H1 fun y H2 => R x y H2)
  {α : Type} {Q : α -> Shared -> Prop} {f : Value -> Value -> Sem α}
  (hf : ∀ v u s2 x y H2, Inv X pins σ H2 s2 -> xU x v -> xU y u -> R x y H2 -> wpAny (model X.prog X.w) X.A (f v u) Q X.xe s2) :
  wpAny (model X.prog X.w) X.A (eval a X.env) (fun v s₁ => wpAny (model X.prog X.w) X.A (eval b X.env) (fun u s₂ => wpAny (model X.prog X.w) X.A (f v u) Q X.xe s₂) X.xe s₁) X.xe s := by
 refine thn (ha pins s σ H _ I h) fun v s1 ⟨x, H1, I1, r1, q1⟩ => ?_
 refine thn (hb pins s1 σ H1 _ I1 q1) fun u s2 ⟨y, H2, I2, r2, q2⟩ => ?_
 exact hf v u s2 x y H2 I2 r1 r2 q2
def MJ (i : Nat) : TE := fun σ H Q => ∃ v, σ[i]? = some (some v) /\ Q v H
def tC (v : V) : TE := fun _ H Q => Q v H
theorem VX {i : Nat} {x : Str} {pos : Pos} (hN : X.N[i]? = some x) (hv : Vis X.env.scope x) (hd : (x == ("__debug__" : Str)) = false := by decide) (hcd : (x == ("__classdict__" : Str)) = false := by decide) : PE X (.Name x pos) (MJ i) := by
 intro pins s σ H Q I h
 obtain ⟨v, e, h⟩ := h
 obtain ⟨m, hn, hl⟩ := I.loc
 obtain ⟨u, r, l⟩ := hl i x v hN e hv
 have fin : EP X pins σ Q u s := ⟨v, H, I, r, h⟩
 rcases l with ⟨hk, hm⟩ | ⟨hk, c, hc, hcell⟩
 ·exact wpAny_Name (wpAny_loadName_local I.ok.kind hk hn hm fin) hd
 ·rcases hk with hk | hk
  ·exact wpAny_Name (wpAny_loadName_cell I.ok.kind hk hc hcell fin) hd
  ·exact wpAny_Name (wpAny_loadName_free I.ok.kind hk hc hcell fin hcd) hd
theorem Hq {i j pos} : PE X (.Constant (.int i) j pos) (tC (.int i)) := fun _ _ _ H _ I h => wpAny_Constant_int ⟨.int i, H, I.tok _, ⟨_, rfl⟩, h⟩
theorem Mj {b j pos} : PE X (.Constant (.bool b) j pos) (tC (.bl b)) := fun _ _ _ H _ I h => Constant_bool ⟨.bl b, H, I, rfl, h⟩
theorem Dd {j pos} : PE X (.Constant .none j pos) (tC .non) := fun _ _ _ H _ I h => Constant_none ⟨.non, H, I, rfl, h⟩
theorem C8 {x j pos} : PE X (.Constant (.str x) j pos) (tC (.str x)) := fun _ _ _ H _ I h => Calls.Constant_str ⟨.str x, H, I.tok _, ⟨_, rfl⟩, h⟩
def Gl (X : Cx) (x : Str) : Prop := X.env.kindOf x = some .globalImplicit
theorem Vh {E : Value -> Shared -> Prop} {pins : List (Addr × Obj)} {s : Shared} {σ : St} {H : Hp} {x : Str} {u : Value} {pos : Pos} {Q : Value -> Shared -> Prop} (I : Inv X pins σ H s) (hg : Gl X x) (hm : X.mg x = some u) (h : Q u s)
  (hd : (x == ("__debug__" : Str)) = false := by decide) : wpAny (model X.prog X.w) X.A (eval (.Name x pos) X.env) Q E s :=
 Calls.Name_function_global I.ok.kind hg (Calls.loadGlobal_global (by rw [I.ok.glob]; exact I.mod.glob.keeps I.bk) hm h) hd
theorem qc {E : Value -> Shared -> Prop} {pins : List (Addr × Obj)} {s : Shared} {σ : St} {H : Hp} {x : Str} {u : Value} {pos : Pos} {Q : Value -> Shared -> Prop} (I : Inv X pins σ H s) (hg : Gl X x) (hm : X.mg x = none) (hv : bootBuiltins x = some u) (h : Q u s)
  (hn : x ≠ "__name__" := by decide) (hd : (x == ("__debug__" : Str)) = false := by decide) : wpAny (model X.prog X.w) X.A (eval (.Name x pos) X.env) Q E s := by
 obtain ⟨mb, h1, h2⟩ := I.mod.blt
 exact Calls.Name_function_global I.ok.kind hg (Calls.loadGlobal_builtin (by rw [I.ok.glob]; exact I.mod.glob.keeps I.bk) hm (by rw [I.ok.blt]; exact h1.keeps I.bk) ((h2 x hn).trans hv) h) hd
theorem W2 {x : Str} {v : V} {u : Value} {pos : Pos} (hg : Gl X x) (hm : X.mg x = some u) (r : xU v u) (hd : (x == ("__debug__" : Str)) = false := by decide) : PE X (.Name x pos) (tC v) :=
 fun _ _ _ H _ I h => Vh I hg hm ⟨v, H, I, r, h⟩ hd
theorem Bm {x : Str} {v : V} {u : Value} {pos : Pos} (hg : Gl X x) (hm : X.mg x = none) (hv : bootBuiltins x = some u) (r : xU v u) (hn : x ≠ "__name__" := by decide) (hd : (x == ("__debug__" : Str)) = false := by decide) : PE X (.Name x pos) (tC v) :=
 fun _ _ _ H _ I h => qc I hg hm hv ⟨v, H, I, r, h⟩ hn hd
variable {a b : Expr} {ta tb : TE} {pos : Pos}
def PC (X : Cx) (op : CmpOp) (a b : Expr) (t : TE) : Prop :=
 ∀ (pins : List (Addr × Obj)) (s : Shared) (σ : St) (H : Hp) (Q : VK), Inv X pins σ H s -> t σ H Q →
  wpAny (model X.prog X.w) X.A (eval a X.env) (fun v s₁ => wpAny (model X.prog X.w) X.A (eval b X.env) (fun u s₂ => wpAny (model X.prog X.w) X.A (compareOp op v u) (EP X pins σ Q) X.xe s₂) X.xe s₁) X.xe s
theorem Gm (b : Expr) {op : CmpOp} (h : op ≠ .In) (h2 : op ≠ .NotIn) : behindInMarks op b = false := by
 have e1 : (op == CmpOp.In) = false := by cases op <;> first | rfl | exact absurd rfl h
 have e2 : (op == CmpOp.NotIn) = false := by cases op <;> first | rfl | exact absurd rfl h2
 cases b <;> simp [behindInMarks, e1, e2]
def tB (t : TE) : TT := fun σ H Q => t σ H fun x H1 => ∃ c, x = .bl c /\ Q c H1
theorem M4 {op : CmpOp} {t : TE} (h : PC X op a b t) (h1 : behindInMarks op b = false := by first | exact Gm _ (by decide) (by decide) | rfl) : PT X (.Compare a [op] [b] pos) (tB t) := by
 intro pins s σ H Q I hw
 refine wpAny_isTrue_Compare1 (thn (h pins s σ H _ I hw) fun v s1 h1 => thn h1 fun u s2 h2 => thn h2 fun c s3 ⟨x, H1, I1, r1, q1⟩ => ?_) h1
 obtain ⟨d, rfl, q⟩ := q1
 cases r1
 exact wpAny_truthy_bool ⟨H1, I1, q⟩
theorem He {e : Expr} {t : TE} (h : PE X e t) (he : ∀ whole, isTrue e X.env whole = (do let v ← whole; standAt e.pos; holding [v] (truthy v)) := by intro _; rfl) : PT X e (tB t) := by
 intro pins s σ H Q I hw
 refine isTrue_plain (thn (h pins s σ H _ I hw) fun v s1 ⟨x, H1, I1, r1, q1⟩ => ?_) (he _)
 obtain ⟨d, rfl, q⟩ := q1
 cases r1
 exact wpAny_truthy_bool ⟨H1, I1, q⟩
variable {tA tB' : TT} {rest : List Expr}
def Nm (t u : TT) : TT := fun σ H Q => t σ H fun c H1 => if c = true then u σ H1 Q else Q false H1
def tOr (t u : TT) : TT := fun σ H Q => t σ H fun c H1 => if c = true then Q true H1 else u σ H1 Q
def Ng (t : TT) : TT := fun σ H Q => t σ H fun c H1 => Q (!c) H1
theorem Be (ha : PT X a tA) : PW X (.BoolOp .And [a] pos) tA := by
 intro wh pins s σ H Q I h
 refine isTrue_and (thn (ha pins s σ H Q I h) fun c s1 e => ?_)
 cases c with
 | true => exact isTrue_and_nil e
 | false => exact e
theorem C5 (ha : PT X a tA) : PW X (.BoolOp .Or [a] pos) tA := by
 intro wh pins s σ H Q I h
 refine isTrue_or (thn (ha pins s σ H Q I h) fun c s1 e => ?_)
 cases c with
 | false => exact isTrue_or_nil e
 | true => exact e
theorem C6 (ha : PT X a tA) (hb : PW X (.BoolOp .And (b :: rest) pos) tB') : PW X (.BoolOp .And (a :: b :: rest) pos) (Nm tA tB') := by
 intro wh pins s σ H Q I h
 refine isTrue_and (thn (ha pins s σ H _ I h) fun c s1 ⟨H1, I1, q1⟩ => ?_)
 cases c with
 | true => exact hb wh pins s1 σ H1 Q I1 q1
 | false => exact ⟨H1, I1, q1⟩
theorem Mg (ha : PT X a tA) (hb : PW X (.BoolOp .Or (b :: rest) pos) tB') : PW X (.BoolOp .Or (a :: b :: rest) pos) (tOr tA tB') := by
 intro wh pins s σ H Q I h
 refine isTrue_or (thn (ha pins s σ H _ I h) fun c s1 ⟨H1, I1, q1⟩ => ?_)
 cases c with
 | true => exact ⟨H1, I1, q1⟩
 | false => exact hb wh pins s1 σ H1 Q I1 q1
theorem Hg (ha : PT X a tA) : PT X (.UnaryOp .Not a pos) (Ng tA) := by
 intro pins s σ H Q I h
 exact isTrue_not (ha pins s σ H (fun c H1 => Q (!c) H1) I h)
def FX (ta tb : TE) : TE := fun σ H Q => ta σ H fun x H1 => ∃ c, x = .bl c /\ if c = true then tb σ H1 Q else Q (.bl false) H1
def FN (ta : TE) : TE := fun σ H Q => ta σ H fun x H1 => ∃ c, x = .bl c /\ Q (.bl (!c)) H1
theorem Da {op} {t : TE} (h : PE X a t) : PE X (.BoolOp op [a] pos) t := fun pins s σ H Q I hw => BoolOp_one (h pins s σ H Q I hw)
theorem Df (ha : PE X a ta) (hb : PE X (.BoolOp .And (b :: rest) pos) tb) : PE X (.BoolOp .And (a :: b :: rest) pos) (FX ta tb) := by
 intro pins s σ H Q I h
 refine BoolOp_and (thn (ha pins s σ H _ I h) fun v s1 ⟨x, H1, I1, r1, q1⟩ => ?_)
 obtain ⟨c, rfl, q1⟩ := q1
 cases r1
 refine wpAny_truthy_bool ?_
 cases c with
 | true => exact hb pins s1 σ H1 Q I1 q1
 | false => exact ⟨.bl false, H1, I1, rfl, q1⟩
theorem Dc (ha : PE X a ta) : PE X (.UnaryOp .Not a pos) (FN ta) := by
 intro pins s σ H Q I h
 refine UnaryOp_ (thn (ha pins s σ H _ I h) fun v s1 ⟨x, H1, I1, r1, q1⟩ => ?_)
 obtain ⟨c, rfl, q1⟩ := q1
 cases r1
 exact not_of (wpAny_truthy_bool ⟨.bl (!c), H1, I1, rfl, q1⟩)
def tIf (t : TT) (ta tb : TE) : TE := fun σ H Q => t σ H fun c H1 => if c = true then ta σ H1 Q else tb σ H1 Q
theorem K7 {c : Expr} (hc : PT X c tA) (ha : PE X a ta) (hb : PE X b tb) : PE X (.IfExp c a b pos) (tIf tA ta tb) := by
 intro pins s σ H Q I h
 refine wpAny_IfExp (thn (hc pins s σ H _ I h) fun d s1 ⟨H1, I1, q1⟩ => ?_)
 cases d with
 | true => exact ha pins s1 σ H1 Q I1 q1
 | false => exact hb pins s1 σ H1 Q I1 q1
end
def SqL (K : W.Frag) (H : Hp) (a : Addr) (xs : List V) : Prop :=
 Rd H a (.lst xs) ∨
  ∃ (o : Obj) (its : Array Value) (n : Nat), K.lookup a = some o /\ o.cls = .type "list" /\ o.dict = none /\ o.data = .seq its n /\ its.size <= sizeLine /\ xf xs its.toList
def SqT (K : W.Frag) (H : Hp) (a : Addr) (xs : List V) : Prop :=
 Rd H a (.tup xs) ∨
  ∃ (o : Obj) (its : Array Value) (n : Nat), K.lookup a = some o /\ o.cls = .type "tuple" /\ o.data = .seq its n /\ its.size <= sizeLine /\ xf xs its.toList
def NI : Value -> Option V
 | .none => some .non
 | .bool b => some (.bl b)
 | .int i _ => some (.int i)
 | .str x _ => some (.str x)
 | .bytes b _ => some (.byt b)
 | .float b _ => some (.flt b)
 | .ref a => some (.ref a)
 | .type n => some (.ty n)
 | _ => none
theorem xU.abs {x : V} {u : Value} (r : xU x u) : NI u = some x := by
 cases x with
 | non => cases r; rfl
 | bl _ => cases r; rfl
 | int _ => obtain ⟨t, rfl⟩ := r; rfl
 | str _ => obtain ⟨t, rfl⟩ := r; rfl
 | byt _ => obtain ⟨t, rfl⟩ := r; rfl
 | flt _ => obtain ⟨t, rfl⟩ := r; rfl
 | ref _ => cases r; rfl
 | ty _ => cases r; rfl
theorem xU.inj {x y : V} {u : Value} (r : xU x u) (q : xU y u) : x = y := g2s.inj (r.abs.symm.trans q.abs)
theorem xf.inj : ∀ {xs ys : List V} {us : List Value}, xf xs us -> xf ys us -> xs = ys
 | _, _, _, .nil, .nil => rfl
 | _, _, _, .cons r t, .cons r' t' => by rw [r.inj r', xf.inj t t']
section
variable {X : Cx} {pins : List (Addr × Obj)} {σ : St} {H : Hp} {s : Shared} {a : Addr} {xs ys : List V}
theorem SqL.of {K : W.Frag} (h : H a = some (.lst xs)) : SqL K H a xs := .inl (.inl h)
theorem SqT.of {K : W.Frag} (h : H a = some (.tup xs)) : SqT K H a xs := .inl (.inl h)
theorem Inv.list (I : Inv X pins σ H s) (h : SqL X.K H a xs) : ∃ its : List Value, xf xs its /\ PlainL s.heap a its.toArray /\ xs.length <= sizeLine := by
 rcases h with h | ⟨o, its, n, hk, hc, hd, hs, hz, r⟩
 ·obtain ⟨z, its, n, r, e⟩ := h.ok I.hok
  exact ⟨its, r, ⟨_, n, e, rfl, rfl, rfl⟩, z⟩
 ·refine ⟨its.toList, r, ⟨o, n, I.kIn a o hk, hc, hd, by simpa using hs⟩, ?_⟩
  have e := r.length
  simp only [Array.length_toList] at e
  omega
theorem Inv.tuple (I : Inv X pins σ H s) (h : SqT X.K H a xs) : ∃ its : List Value, xf xs its /\ IsTup s.heap a its.toArray /\ xs.length <= sizeLine := by
 rcases h with h | ⟨o, its, n, hk, hc, hs, hz, r⟩
 ·obtain ⟨z, its, r, p⟩ := h.ok I.hok
  exact ⟨its, r, p, z⟩
 ·refine ⟨its.toList, r, ⟨o, I.kIn a o hk, hc, n, by simpa using hs⟩, ?_⟩
  have e := r.length
  simp only [Array.length_toList] at e
  omega
theorem Inv.list_inj (I : Inv X pins σ H s) (h : SqL X.K H a xs) (h' : SqL X.K H a ys) : xs = ys := by
 obtain ⟨its, r, ⟨o, n, e, _, _, d⟩, _⟩ := I.list h
 obtain ⟨its', r', ⟨o', n', e', _, _, d'⟩, _⟩ := I.list h'
 rw [e] at e'; cases e'
 rw [d] at d'
 injection d' with d1 _
 have : its = its' := by simpa using congrArg Array.toList d1
 subst this
 exact r.inj r'
theorem Inv.tuple_inj (I : Inv X pins σ H s) (h : SqT X.K H a xs) (h' : SqT X.K H a ys) : xs = ys := by
 obtain ⟨its, r, ⟨o, e, _, n, d⟩, _⟩ := I.tuple h
 obtain ⟨its', r', ⟨o', e', _, n', d'⟩, _⟩ := I.tuple h'
 rw [e] at e'; cases e'
 rw [d] at d'
 injection d' with d1 _
 have : its = its' := by simpa using congrArg Array.toList d1
 subst this
 exact r.inj r'
end
abbrev Cx.wish (X : Cx) (E : Value -> Shared -> Prop) : Cx := { X with xe := E }
abbrev Cx.nox (X : Cx) : Cx := X.wish fun _ _ => False
theorem Cx.Ok.wish {X : Cx} (ok : X.Ok) (E : Value -> Shared -> Prop) : (X.wish E).Ok :=
 ⟨ok.mod, ok.kind, ok.glob, ok.blt, ok.above, ok.inj, ok.has, ok.cab, ok.hd, ok.frames, ok.stk, ok.exf, ok.bs, ok.bsz, ok.noex, ok.exfs, ok.funs, ok.frf⟩
theorem Cx.Ok.unwish {X : Cx} {E : Value -> Shared -> Prop} (ok : (X.wish E).Ok) : X.Ok :=
 ⟨ok.mod, ok.kind, ok.glob, ok.blt, ok.above, ok.inj, ok.has, ok.cab, ok.hd, ok.frames, ok.stk, ok.exf, ok.bs, ok.bsz, ok.noex, ok.exfs, ok.funs, ok.frf⟩
section
variable {X : Cx} {pins : List (Addr × Obj)} {σ : St} {H : Hp} {s : Shared} {E : Value -> Shared -> Prop}
theorem Inv.wish (I : Inv X pins σ H s) (E : Value -> Shared -> Prop) : Inv (X.wish E) pins σ H s := ⟨I.ok.wish E, I.os, I.bare, I.base, I.loc, I.cell, I.free, I.freeC, I.pin, I.hok, I.len⟩
theorem Inv.unwish (I : Inv (X.wish E) pins σ H s) : Inv X pins σ H s := ⟨I.ok.unwish, I.os, I.bare, I.base, I.loc, I.cell, I.free, I.freeC, I.pin, I.hok, I.len⟩
theorem SP.unwish {D : Ends} {f : Flow} {s' : Shared} (h : SP (X.wish E) pins D f s') : SP X pins D f s' := by
 cases f with
 | next => obtain ⟨σ', H', I, q⟩ := h; exact ⟨σ', H', I.unwish, q⟩
 | brk => obtain ⟨σ', H', I, q⟩ := h; exact ⟨σ', H', I.unwish, q⟩
 | cont => obtain ⟨σ', H', I, q⟩ := h; exact ⟨σ', H', I.unwish, q⟩
 | ret u => obtain ⟨v, σ', H', I, r, q⟩ := h; exact ⟨v, σ', H', I.unwish, r, q⟩
theorem PSs.nox {st : List Stmt} {t : TS} (h : PSs X.nox st t) : PSs X st t := fun pins s σ H D I hw =>
 wpAny_mono (h pins s σ H D (I.wish _) hw) (fun _ _ q => q.unwish) fun _ _ z => False.elim z
end
section
variable {X : Cx} {st : Stmt} {rest : List Stmt} {t u : TS} {e : Expr} {te : TE} {pos : Pos}
def FO : TS := fun D σ H => D.nx σ H
def Nd (t u : TS) : TS := fun D σ H => t { D with nx := u D } σ H
theorem WZ : PSs X [] FO := fun _ _ σ H _ I h => wpAny_execs_nil ⟨σ, H, I, h⟩
theorem xo (h1 : PS X st t) (h2 : PSs X rest u) : PSs X (st :: rest) (Nd t u) := by
 intro pins s σ H D I h
 refine wpAny_execs_cons (thn (h1 pins s σ H { D with nx := u D } I h) fun f s1 q => ?_)
 cases f with
 | next =>
  obtain ⟨σ', H', I', q⟩ := q
  exact h2 pins s1 σ' H' D I' q
 | ret v => exact q
 | brk => exact q
 | cont => exact q
theorem vy (h1 : PS X st t) : PSs X [st] t := by
 intro pins s σ H D I h
 refine wpAny_execs_cons (thn (h1 pins s σ H D I h) fun f s1 q => ?_)
 cases f with
 | next => exact wpAny_execs_nil q
 | ret v => exact q
 | brk => exact q
 | cont => exact q
theorem Inv.quiet {pins : List (Addr × Obj)} {σ : St} {H : Hp} {s : Shared} (I : Inv X pins σ H s) : interactive X.env = false := by simp [interactive, I.ok.kind]
def FR (te : TE) : TS := fun D σ H => te σ H fun _ H1 => D.nx σ H1
theorem uZ (he : PE X e te) (hs : swapsWith e none pos.line X.env = pure false := by rfl) : PS X (.Expr e pos) (FR te) := by
 intro pins s σ H D I h
 exact wpAny_Expr_any (thn (he pins s σ H _ I h) fun v s1 ⟨x, H1, I1, r1, q1⟩ => ⟨σ, H1, I1, q1⟩) I.quiet hs
def Nf (te : TE) : TS := fun D σ H => te σ H D.rt
theorem Hh (he : PE X e te) : PS X (.Return (some e) pos) (Nf te) := by
 intro pins s σ H D I h
 exact wpAny_Return_some (thn (he pins s σ H _ I h) fun v s1 ⟨x, H1, I1, r1, q1⟩ => ⟨x, σ, H1, I1, r1, q1⟩)
def FK : TS := fun D _ H => D.rt .non H
theorem Bf : PS X (.Return none pos) FK := fun _ _ σ H _ I h => wpAny_Return_none ⟨.non, σ, H, I, rfl, h⟩
def Ni (c : TT) (t u : TS) : TS := fun D σ H => c σ H fun b H1 => if b = true then t D σ H1 else u D σ H1
theorem Bg {c : Expr} {a b : List Stmt} {tc : TT} (hc : PT X c tc) (ha : PSs X a t) (hb : PSs X b u) : PS X (.If c a b pos) (Ni tc t u) := by
 intro pins s σ H D I h
 refine wpAny_If (thn (hc pins s σ H _ I h) fun d s1 ⟨H1, I1, q1⟩ => ?_)
 cases d with
 | true => exact ha pins s1 σ H1 D I1 q1
 | false => exact hb pins s1 σ H1 D I1 q1
end
abbrev TG := V -> St -> Hp -> (St -> Hp -> Prop) -> Prop
abbrev TGs := List V -> St -> Hp -> (St -> Hp -> Prop) -> Prop
def PG (X : Cx) (target : Expr) (t : TG) : Prop :=
 ∀ (pins : List (Addr × Obj)) (s : Shared) (σ : St) (H : Hp) (v : V) (u : Value) (Q : St -> Hp -> Prop), Inv X pins σ H s -> xU v u -> t v σ H Q →
  wpAny (model X.prog X.w) X.A (assign target X.env u) (fun _ s' => ∃ σ' H', Inv X pins σ' H' s' /\ Q σ' H') X.xe s
def PGs (X : Cx) (ts : List Expr) (t : TGs) : Prop :=
 ∀ (pins : List (Addr × Obj)) (s : Shared) (σ : St) (H : Hp) (vs : List V) (us : List Value) (Q : St -> Hp -> Prop), Inv X pins σ H s -> xf vs us -> t vs σ H Q →
  wpAny (model X.prog X.w) X.A (assignInOrder ((assignEach ts X.env).map (·.2)) us) (fun _ s' => ∃ σ' H', Inv X pins σ' H' s' /\ Q σ' H') X.xe s
section
variable {X : Cx} {pos : Pos}
def DU (i : Nat) : TG := fun v σ H Q => Q (σ.set i (some v)) H
theorem Zi {i : Nat} {x : Str} (hN : X.N.Nodup) (hi : X.N[i]? = some x) (hx : Loc X.env.scope x) (hf : X.fn x = true \/ X.env.scope.names.lookup x = some .local := by first | exact .inl rfl | exact .inr rfl | assumption) : PG X (.Name x pos) (DU i) := by
 intro pins s σ H v u Q I r h
 exact wpAny_assign_Name (VI I hN hi hx r (fun s' I' => ⟨_, H, I', h⟩) hf)
def NF : TGs := fun vs σ H Q => vs = [] /\ Q σ H
def Mw (t : TG) (u : TGs) : TGs := fun vs σ H Q => ∃ v r, vs = v :: r /\ t v σ H fun σ' H' => u r σ' H' Q
theorem Je : PGs X [] NF := by
 intro pins s σ H vs us Q I r h
 obtain ⟨e, h⟩ := h
 subst e
 cases r
 exact assignInOrder_nil ⟨σ, H, I, h⟩
theorem YS {e : Expr} {es : List Expr} {t : TG} {u : TGs} (h1 : PG X e t) (h2 : PGs X es u)
  (hs : (assignEach (e :: es) X.env).map (·.2) = assign e X.env :: (assignEach es X.env).map (·.2) := by rfl) : PGs X (e :: es) (Mw t u) := by
 intro pins s σ H vs us Q I r h
 obtain ⟨v, vr, e1, h⟩ := h
 subst e1
 cases r with
 | cons r rr =>
  rw [hs]
  refine assignInOrder_cons (thn (h1 pins s σ H _ _ _ I r h) fun _ s1 ⟨σ1, H1, I1, q1⟩ => ?_)
  exact h2 pins s1 σ1 H1 _ _ Q I1 rr q1
def ND (K : W.Frag) (n : Nat) (t : TGs) : TG := fun v σ H Q => ∃ a xs, v = .ref a /\ SqT K H a xs /\ xs.length = n /\ t xs σ H Q
theorem Hl {es : List Expr} {k : Nat} {t : TGs} {n : Nat} (hc : X.calm = true) (h : PGs X es t)
  (hn : (assignEach es X.env).length = n := by rfl) (hst : (assignEach es X.env).findIdx? (·.1) = none := by rfl) : PG X (.Tuple es k pos) (ND X.K n t) := by
 intro pins s σ H v u Q I r hw
 obtain ⟨a, xs, e1, hq, hl, hw⟩ := hw
 subst e1
 cases r
 obtain ⟨its, rv, ht, hz⟩ := I.tuple hq
 refine assign_Tuple_tuple (I.ok.hd hc) ht (by simp [hn, <- hl, rv.length]) hst fun h' hx => ?_
 have I1 : Inv X pins σ H { s with heap := h' } := I.kept (t' := s.toks) fun b o e => hx b o (g1g (Heap.lt_size e)) e
 exact h pins _ σ H xs _ Q I1 (by simpa using rv) hw
def Nl (te : TE) (g : TG) : TS := fun D σ H => te σ H fun x H1 => g x σ H1 D.nx
theorem Yc {i : Nat} {x : Str} {e : Expr} {te : TE} {pos' : Pos} (hN : X.N.Nodup) (hi : X.N[i]? = some x) (hx : Loc X.env.scope x) (he : PE X e te) (hs : swapsWith e (some (.Name x pos')) pos.line X.env = pure false := by rfl) (hf : X.fn x = true \/ X.env.scope.names.lookup x = some .local := by first | exact .inl rfl | exact .inr rfl | assumption) :
  PS X (.Assign [.Name x pos'] e pos) (Nl te (DU i)) := by
 intro pins s σ H D I h
 refine wpAny_Assign_Name (thn (he pins s σ H _ I h) fun v s1 ⟨y, H1, I1, r1, q1⟩ => ?_) hs
 exact VI I1 hN hi hx r1 (fun s2 I2 => ⟨_, H1, I2, q1⟩) hf
end
section
variable {X : Cx} {pos : Pos}
def CG (c : TT) (tb : TS) : TS := fun D σ H => ∃ W : Nat -> St -> Hp -> Prop, (∃ m, W m σ H) /\ ∀ m σ H, W m σ H →
 c σ H fun b H1 => if b = true then ∃ N : St -> Hp -> Prop, (∀ σ' H', N σ' H' -> ∃ m', m' < m /\ W m' σ' H') /\ tb { D with nx := N, ct := N, bk := D.nx } σ H1 else D.nx σ H1
theorem K3 {c : Expr} {body : List Stmt} {tc : TT} {tb : TS} (hp : PassesOwn (model X.prog X.w) X.A X.env X.xe) (hc : PT X c tc) (hb : PSs X body tb) : PS X (.While c body [] pos) (CG tc tb) := by
 intro pins s σ H D I h
 obtain ⟨W, ⟨m0, w0⟩, turn⟩ := h
 refine wpAny_While (codeAny_whileLoop (fun n s' => ∃ σ' H', Inv X pins σ' H' s' /\ W n σ' H') ?_ m0 ⟨σ, H, I, w0⟩)
 rintro n s1 ⟨σ1, H1, I1, w1⟩
 refine wpAny_passesOwn hp (thn (hc pins s1 σ1 H1 _ I1 (turn n σ1 H1 w1)) fun b s2 ⟨H2, I2, q2⟩ => ?_)
 cases b with
 | true =>
  obtain ⟨N, hN, q2⟩ := q2
  rw [if_pos rfl]
  refine wpAny_passesOwn hp (thn (hb pins s2 σ1 H2 _ I2 q2) fun f s3 q3 => ?_)
  cases f with
  | next =>
   obtain ⟨σ3, H3, I3, n3⟩ := q3
   obtain ⟨m', hm, w3⟩ := hN σ3 H3 n3
   exact ⟨m', hm, σ3, H3, I3, w3⟩
  | cont =>
   obtain ⟨σ3, H3, I3, n3⟩ := q3
   obtain ⟨m', hm, w3⟩ := hN σ3 H3 n3
   exact ⟨m', hm, σ3, H3, I3, w3⟩
  | brk => exact q3
  | ret v => exact q3
 | false =>
  rw [if_neg g1q]
  exact wpAny_execs_nil ⟨σ1, H2, I2, q2⟩
end
structure It where
 go : Nat -> Hp -> Prop
 yld : Nat -> Hp -> V -> Hp -> Prop
 stop : Nat -> Hp -> Prop
def q9 (X : Cx) (pins : List (Addr × Obj)) (H : Hp) (b : Addr) : Prop :=
 H b = none /\ b ≠ X.env.locals /\ b ∉ X.fs /\ (b ∈ X.ex \/ X.s₀.heap.objs.size <= b) /\ (∀ x c, X.env.cells.lookup x = some c -> c ≠ b) /\ ∀ p ∈ X.pn ++ pins, p.1 ≠ b
theorem Inv.fpOk {X : Cx} {pins : List (Addr × Obj)} {σ : St} {H H' : Hp} {s : Shared} {b : Addr} (I : Inv X pins σ H s) (hb : s.heap.objs.size <= b) (hn : H' b = none) : q9 X pins H' b := by
 refine ⟨hn, Nat.ne_of_gt (g1c I.lt hb), I.nofs hb, .inr (g2a I.sz hb), fun x c e z => ?_, fun p hp z => ?_⟩
 ·obtain ⟨v, q⟩ := I.cell x c e
  exact absurd (g1c q.lt (by rw [z]; exact hb)) (g2w _)
 ·exact absurd (g1c (Heap.lt_size (I.pin p hp).1) (by rw [z]; exact hb)) (g2w _)
structure Turn (P : Program) (w : World) (K : W.Frag) (tg : Expr) (J : It) (fp : List Addr) (it : Addr) (tn : Nat -> Heap -> Prop) : Prop where
 mem : it ∈ fp
 obj : ∀ i h, tn i h -> ∀ b ∈ fp, ∃ o, h.get? b = some o /\ ∀ v, o.data ≠ .cell v
 keep : ∀ i h h', tn i h -> (∀ b ∈ fp, ∀ o, h.get? b = some o -> h'.get? b = some o) -> tn i h'
 item : ∀ (X : Cx), X.prog = P -> X.w = w -> X.K = K -> X.calm = true -> ∀ (i : Nat) (pins : List (Addr × Obj)) (s : Shared) (σ : St) (H : Hp) (E : Value -> Shared -> Prop), Inv X pins σ H s -> (∀ b ∈ fp, q9 X pins H b) -> tn i s.heap -> J.go i H →
  wpAny (model P w) X.A (pyNext (.ref it)) (fun r s1 => ∃ u, r = some u ∧
   wpAny (model P w) X.A (letOwnedTupleGo tg (.ref it) u) (fun _ s2 => ∃ x H', Inv X pins σ H' s2 /\ xU x u /\ J.yld i H x H' /\ tn (i + 1) s2.heap /\ ∀ b ∈ fp, H' b = none) E s1) E s
 done : ∀ (X : Cx), X.prog = P -> X.w = w -> X.K = K -> X.calm = true -> ∀ (i : Nat) (pins : List (Addr × Obj)) (s : Shared) (σ : St) (H : Hp) (E : Value -> Shared -> Prop), Inv X pins σ H s -> (∀ b ∈ fp, q9 X pins H b) -> tn i s.heap -> J.stop i H →
  wpAny (model P w) X.A (pyNext (.ref it)) (fun r s1 => r = none /\ Inv X pins σ H s1) E s
 self : ∀ (A : Around) (i : Nat) (s : Shared) (Q : Value -> Shared -> Prop) (E : Value -> Shared -> Prop), tn i s.heap -> Q (.ref it) s -> wpAny (model P w) A (pyIter (.ref it)) Q E s
abbrev TI := St -> Hp -> (It -> Hp -> Prop) -> Prop
def PIE (X : Cx) (pins : List (Addr × Obj)) (σ : St) (tg : Expr) (R : It -> Hp -> Prop) (itv : Value) (s2 : Shared) : Prop :=
 ∃ (it : Addr) (fp : List Addr) (tn : Nat -> Heap -> Prop) (J : It) (H' : Hp), itv = .ref it /\ Inv X pins σ H' s2 /\ Turn X.prog X.w X.K tg J fp it tn /\ tn 0 s2.heap /\ (∀ b ∈ fp, q9 X pins H' b) /\ R J H'
def PI (X : Cx) (tg iter : Expr) (wi : TI) : Prop :=
 ∀ (pins : List (Addr × Obj)) (s : Shared) (σ : St) (H : Hp) (R : It -> Hp -> Prop), Inv X pins σ H s -> wi σ H R →
  wpAny (model X.prog X.w) X.A (eval iter X.env) (fun v s1 => wpAny (model X.prog X.w) X.A (pyIter v) (PIE X pins σ tg R) X.xe s1) X.xe s
theorem J0 {M : Model} {A : Around} {E : Value -> Shared -> Prop} {s : Shared} {tg : Expr} {it : Addr} {u : Value} {o : Obj} {n : String} {vs : Array Value} {Q : Unit -> Shared -> Prop} (ho : s.heap.get? it = some o) (hc : o.cls = .type n) (hd : o.data = .fields vs)
    (hn : ["enumerate", "zip", "dict_itemiterator", "dict_reverseitemiterator", "odict_iterator", "itertools.zip_longest", "itertools.pairwise"].contains n = false) (hQ : Q () s) : wpAny M A (letOwnedTupleGo tg (.ref it) u) Q E s := by
  unfold letOwnedTupleGo
  cases tg <;> first
    | exact wpAny_pure hQ
    | (cases u <;> first
        | exact wpAny_pure hQ
        | (refine wpAny_bind (wpAny_load ho ?_)
           rw [hc, hd]
           show wpAny M A (if (["enumerate", "zip", "dict_itemiterator", "dict_reverseitemiterator", "odict_iterator", "itertools.zip_longest", "itertools.pairwise"].contains n && vs[0]? == some (rawInt _)) = true then _ else _) Q E s
           rw [if_neg (by intro h; rw [hn, Bool.false_and] at h; cases h)]
           exact wpAny_pure hQ))
def Itl (K : W.Frag) (a : Addr) : It :=
 ⟨fun i H => ∃ xs x, SqL K H a xs /\ xs[i]? = some x, fun i H x H' => H' = H /\ ∀ xs, SqL K H a xs -> xs[i]? = some x, fun i H => ∃ xs, SqL K H a xs /\ xs.length <= i⟩
def Itt (K : W.Frag) (a : Addr) : It :=
 ⟨fun i H => ∃ xs x, SqT K H a xs /\ xs[i]? = some x, fun i H x H' => H' = H /\ ∀ xs, SqT K H a xs -> xs[i]? = some x, fun i H => ∃ xs, SqT K H a xs /\ xs.length <= i⟩
def Itr (lo : Int) (n : Nat) : It := ⟨fun i _ => i < n, fun i H x H' => H' = H /\ x = .int (lo + i), fun i _ => n <= i⟩
theorem QD {P : Program} {w : World} {K : W.Frag} {tg : Expr} (a it : Addr) : Turn P w K tg (Itl K a) [it] it (fun i h => h.IsListIter it a i) where
 mem := by simp
 obj := fun i h st b hb => by
  have e : b = it := by simpa using hb
  subst e
  obtain ⟨o, e, c, d⟩ := st
  exact ⟨o, e, fun v z => by rw [d] at z; cases z⟩
 keep := fun i h h' st k => st.at fun o e => k it (by simp) o e
 item := by
  intro X hP hw hK hc i pins s σ H E I hf st hg
  subst hP hw hK
  obtain ⟨xs, x, hq, hx⟩ := hg
  obtain ⟨its, rv, p, hz⟩ := I.list hq
  obtain ⟨u, hu, ru⟩ := rv.get hx
  obtain ⟨f0, f1, f2, f3, f4, f5⟩ := hf it (by simp)
  refine wpAny_pyNext_list_item st p.isList (x := u) (by simpa using hu) fun h' st' sb => ?_
  have I1 : Inv X pins σ H { s with heap := h' } := I.turned (t' := s.toks) (fun b o hb e => (sb.2 b hb).trans e) f0 f1 f3 f4 f5
  obtain ⟨o, e, c, d⟩ := id st'
  exact ⟨u, rfl, J0 (s := { s with heap := h' }) e c d (by decide) ⟨x, H, I1, ru, ⟨rfl, fun ys hy => by rw [I.list_inj hy hq]; exact hx⟩, st', fun b hb => (hf b hb).1⟩⟩
 done := by
  intro X hP hw hK hc i pins s σ H E I hf st hg
  subst hP hw hK
  obtain ⟨xs, hq, hx⟩ := hg
  obtain ⟨its, rv, p, hz⟩ := I.list hq
  obtain ⟨f0, f1, f2, f3, f4, f5⟩ := hf it (by simp)
  have hl := rv.length
  exact wpAny_pyNext_list_end (I.ok.hd hc) st p.isList (by simp; omega) fun h' eb => ⟨rfl, I.turned (t' := s.toks) (fun b o hb e => eb b o hb e) f0 f1 f3 f4 f5⟩
 self := fun _ _ _ _ _ st h => wpAny_pyIter_listiter st h
theorem Uz {P : Program} {w : World} {K : W.Frag} {tg : Expr} (a it : Addr) : Turn P w K tg (Itt K a) [it] it (fun i h => h.IsTupleIter it a i) where
 mem := by simp
 obj := fun i h st b hb => by
  have e : b = it := by simpa using hb
  subst e
  obtain ⟨o, e, c, d⟩ := st
  exact ⟨o, e, fun v z => by rw [d] at z; cases z⟩
 keep := fun i h h' st k => st.at fun o e => k it (by simp) o e
 item := by
  intro X hP hw hK hc i pins s σ H E I hf st hg
  subst hP hw hK
  obtain ⟨xs, x, hq, hx⟩ := hg
  obtain ⟨its, rv, p, hz⟩ := I.tuple hq
  obtain ⟨u, hu, ru⟩ := rv.get hx
  obtain ⟨f0, f1, f2, f3, f4, f5⟩ := hf it (by simp)
  refine wpAny_pyNext_tuple_item st (show s.heap.IsTuple a its.toArray from p) (x := u) (by simpa using hu) fun h' st' sb => ?_
  have I1 : Inv X pins σ H { s with heap := h' } := I.turned (t' := s.toks) (fun b o hb e => (sb.2 b hb).trans e) f0 f1 f3 f4 f5
  obtain ⟨o, e, c, d⟩ := id st'
  exact ⟨u, rfl, J0 (s := { s with heap := h' }) e c d (by decide) ⟨x, H, I1, ru, ⟨rfl, fun ys hy => by rw [I.tuple_inj hy hq]; exact hx⟩, st', fun b hb => (hf b hb).1⟩⟩
 done := by
  intro X hP hw hK hc i pins s σ H E I hf st hg
  subst hP hw hK
  obtain ⟨xs, hq, hx⟩ := hg
  obtain ⟨its, rv, p, hz⟩ := I.tuple hq
  obtain ⟨f0, f1, f2, f3, f4, f5⟩ := hf it (by simp)
  have hl := rv.length
  exact wpAny_pyNext_tuple_end (I.ok.hd hc) st (show s.heap.IsTuple a its.toArray from p) (by simp; omega) fun h' eb => ⟨rfl, I.turned (t' := s.toks) (fun b o hb e => eb b o hb e) f0 f1 f3 f4 f5⟩
 self := fun _ _ _ _ _ st h => wpAny_pyIter_tupleiter st h
theorem UA {P : Program} {w : World} {K : W.Frag} {tg : Expr} (it : Addr) (lo : Int) (n : Nat) : Turn P w K tg (Itr lo n) [it] it (fun i h => IsRangeIter h it (lo + (i : Nat) * 1) ((n : Int) - (i : Nat)) 1) where
 mem := by simp
 obj := fun i h st b hb => by
  have e : b = it := by simpa using hb
  subst e
  exact ⟨_, st, fun v z => by
   have z' : Data.fields _ = Data.cell v := z
   cases z'⟩
 keep := fun i h h' st k => k it (by simp) _ st
 item := by
  intro X hP hw hK hc i pins s σ H E I hf st hg
  subst hP hw hK
  obtain ⟨f0, f1, f2, f3, f4, f5⟩ := hf it (by simp)
  have W := Walks.range (prog := X.prog) (w := X.w) (I.ok.hd hc) it lo 1 n
  refine W.item i s _ _ hg st fun v h' tk hv st' kk => ?_
  obtain ⟨t, rfl⟩ := hv
  have I1 : Inv X pins σ H { s with heap := h', toks := tk } := I.turned (fun b o hb e => kk b o (by simpa using hb) e) f0 f1 f3 f4 f5
  refine ⟨_, rfl, J0 (s := { s with heap := h', toks := tk }) (n := "range_iterator") st' rfl rfl (by decide) ⟨.int (lo + i), H, I1, ⟨t, ?_⟩, ⟨rfl, rfl⟩, st', fun b hb => (hf b hb).1⟩⟩
  rw [Int.mul_one]
 done := by
  intro X hP hw hK hc i pins s σ H E I hf st hg
  subst hP hw hK
  obtain ⟨f0, f1, f2, f3, f4, f5⟩ := hf it (by simp)
  exact wpAny_pyNext_range_end (I.ok.hd hc) st (by have : n <= i := hg; omega) fun h' eb => ⟨rfl, I.turned (t' := s.toks) (fun b o hb e => eb b o hb e) f0 f1 f3 f4 f5⟩
 self := fun _ _ _ _ _ st h => wpAny_pyIter_rangeiter st h
section
variable {X : Cx} {tg : Expr}
theorem VP {pins : List (Addr × Obj)} {σ : St} {H : Hp} {s : Shared} {R : It -> Hp -> Prop} {E : Value -> Shared -> Prop} {lo hi : Int} {t u v : Tok} {tk : Nat} (I : Inv X pins σ H s) (h1 : -(2 ^ 62) <= lo) (h2 : lo < 2 ^ 62) (h3 : -(2 ^ 62) <= hi) (h4 : hi < 2 ^ 62)
  (q : R (Itr lo (hi - lo).toNat) H) : wpAny (model X.prog X.w) X.A (pyIter (.ref s.heap.objs.size)) (PIE X pins σ tg R) E { s with heap := s.heap.push { cls := .type "range", data := .fields #[.int lo t, .int hi u, .int 1 v] }, toks := tk } := by
 refine wpAny_pyIter_range (IsRange.new ..) (small_one h1 h2 h3 h4) ?_
 have I1 : Inv X pins σ H { s with heap := s.heap.push { cls := .type "range", data := .fields #[.int lo t, .int hi u, .int 1 v] }, toks := tk } := I.kept fun b o e => Heap.get?_push_of_some _ e
 refine ⟨(s.heap.push { cls := .type "range", data := .fields #[.int lo t, .int hi u, .int 1 v] }).objs.size, [(s.heap.push { cls := .type "range", data := .fields #[.int lo t, .int hi u, .int 1 v] }).objs.size], _, _, H, rfl,
  I1.kept (t' := tk) fun b o e => Heap.get?_push_of_some _ e, UA _ lo (hi - lo).toNat, ?_, fun b hb => ?_, q⟩
 ·have e1 : lo + ((0 : Nat) : Int) * 1 = lo := by simp
  have e2 : (((hi - lo).toNat : Nat) : Int) - ((0 : Nat) : Int) = Builtin.Range.rangeSize lo hi 1 := by rw [rangeSize_one]; split <;> omega
  show IsRangeIter _ _ (lo + ((0 : Nat) : Int) * 1) ((((hi - lo).toNat : Nat) : Int) - ((0 : Nat) : Int)) 1
  rw [e1, e2]
  exact Heap.get?_push_size _ rfl
 ·have e : b = (s.heap.push { cls := .type "range", data := .fields #[.int lo t, .int hi u, .int 1 v] }).objs.size := by simpa using hb
  subst e
  exact I1.fpOk (g0r _) (I1.hok.fresh (g0r _))
def Mu (ta : TA) : TI := fun σ H R => ta σ H fun vs H1 => ∃ j : Int, vs = [.int j] /\ -(2 ^ 62) <= j /\ j < 2 ^ 62 /\ R (Itr 0 j.toNat) H1
def Mt (ta : TA) : TI := fun σ H R => ta σ H fun vs H1 => ∃ i j : Int, vs = [.int i, .int j] /\ (-(2 ^ 62) <= i /\ i < 2 ^ 62 /\ -(2 ^ 62) <= j /\ j < 2 ^ 62) /\ R (Itr i (j - i).toNat) H1
theorem Jd {a : Expr} {ta : TA} {p pos : Pos} (hg : Gl X "range") (hm : X.mg "range" = none) (ha : PA X [a] ta) (hs : starEach [a] X.env = [(false, eval a X.env)] := by rfl) : PI X tg (.Call (.Name "range" p) [a] [] pos) (Mu ta) := by
 intro pins s σ H R I h
 refine Call_ (qc I hg hm boot_range (PyProof.Rows.callWith_type1 (thn (ha pos pins s σ H _ I h) fun us s1 ⟨vs, H1, I1, r1, q1⟩ => ?_) hs rfl))
 obtain ⟨j, e, q1, q2, q⟩ := q1
 subst e
 cases r1 with
 | cons r rr =>
  cases rr
  obtain ⟨t, rfl⟩ := r
  exact call_range_1 (VP I1 (by omega) (by omega) q1 q2 (by simpa using q))
theorem Jc {a b : Expr} {ta : TA} {p pos : Pos} (hg : Gl X "range") (hm : X.mg "range" = none) (ha : PA X [a, b] ta) (hs : starEach [a, b] X.env = [(false, eval a X.env), (false, eval b X.env)] := by rfl) (hs2 : starEach [b] X.env = [(false, eval b X.env)] := by rfl) :
  PI X tg (.Call (.Name "range" p) [a, b] [] pos) (Mt ta) := by
 intro pins s σ H R I h
 refine Call_ (qc I hg hm boot_range (PyProof.Rows.callWith_type1 (thn (ha pos pins s σ H _ I h) fun us s1 ⟨vs, H1, I1, r1, q1⟩ => ?_) (by rw [hs, hs2]) (by rw [hs2]; rfl)))
 obtain ⟨i, j, e, ⟨q1, q2, q3, q4⟩, q⟩ := q1
 subst e
 cases r1 with
 | cons r rr =>
  cases rr with
  | cons r' rr =>
   cases rr
   obtain ⟨t, rfl⟩ := r
   obtain ⟨t', rfl⟩ := r'
   exact call_range_2 (VP I1 q1 q2 q3 q4 q)
def Nj (wi : TI) (g : TG) (tb : TS) : TS := fun D σ H => wi σ H fun J H1 => ∃ W : Nat -> Nat -> St -> Hp -> Prop, (∃ m, W 0 m σ H1) /\ ∀ i m σ H, W i m σ H →
 (J.stop i H /\ D.nx σ H) \/ (J.go i H /\ ∃ N : St -> Hp -> Prop, (∀ σ' H', N σ' H' -> ∃ m', m' < m /\ W (i + 1) m' σ' H') /\ ∀ x H', J.yld i H x H' -> g x σ H' fun σ2 H2 => tb { D with nx := N, ct := N, bk := D.nx } σ2 H2)
def km (fp : List Addr) (h : Heap) : List (Addr × Obj) := fp.filterMap fun b => (h.get? b).map fun o => (b, o)
theorem xQ {fp : List Addr} {h : Heap} {b : Addr} {o : Obj} (hb : b ∈ fp) (e : h.get? b = some o) : (b, o) ∈ km fp h := List.mem_filterMap.mpr ⟨b, hb, by rw [e]; rfl⟩
theorem Zo {fp : List Addr} {h : Heap} {p : Addr × Obj} (hp : p ∈ km fp h) : p.1 ∈ fp /\ h.get? p.1 = some p.2 := by
 obtain ⟨b, hb, e⟩ := List.mem_filterMap.mp hp
 cases q : h.get? b with
 | none => rw [q] at e; cases e
 | some o =>
  rw [q] at e
  have e' : (b, o) = p := g2s.inj e
  subst e'
  exact ⟨hb, q⟩
theorem Inv.pinned {pins : List (Addr × Obj)} {σ : St} {H : Hp} {s : Shared} {fp : List Addr} (I : Inv X pins σ H s) (hf : ∀ b ∈ fp, q9 X pins H b) (ho : ∀ b ∈ fp, ∃ o, s.heap.get? b = some o /\ ∀ v, o.data ≠ .cell v) : Inv X (pins ++ km fp s.heap) σ H s :=
 I.pins_of fun p hp => (g1m.mp hp).elim (fun z => I.pin p (g0v _ z)) fun z => by
  obtain ⟨hb, e⟩ := Zo z
  obtain ⟨f0, f1, f2, _⟩ := hf p.1 hb
  obtain ⟨o, e', d⟩ := ho p.1 hb
  rw [e] at e'; cases e'
  exact ⟨e, f0, f1, f2, d⟩
theorem Inv.unpinned {pins pl : List (Addr × Obj)} {σ : St} {H : Hp} {s : Shared} (I : Inv X (pins ++ pl) σ H s) : Inv X pins σ H s := I.pins_of fun p hp => I.pin p (g0v _ (g2x _ hp))
theorem VT {iter : Expr} {body : List Stmt} {wi : TI} {g : TG} {tb : TS} {pos : Pos} (hp : PassesOwn (model X.prog X.w) X.A X.env X.xe) (hc : X.calm = true) (hi : PI X tg iter wi) (hg : PG X tg g) (hb : PSs X body tb)
  (hs : ∀ x, foldedSetIterable iter X.env x = pure x := by intro _; rfl) : PS X (.For tg iter body [] pos) (Nj wi g tb) := by
 intro pins s σ H D I h
 refine wpAny_For (thn (hi pins s σ H _ I h) fun v s1 h1 => thn h1 fun itv s2 h2 => ?_) hs
 obtain ⟨it, fp, tn, J, H2, e, I2, T, st2, f2, W, ⟨m0, w0⟩, turn⟩ := h2
 subst e
 have stat : ∀ {H' : Hp}, (∀ b ∈ fp, H' b = none) -> ∀ b ∈ fp, q9 X pins H' b := fun hn b hb => ⟨hn b hb, (f2 b hb).2⟩
 refine codeAny_forLoop_any (fun n s' => ∃ i σ' H', Inv X pins σ' H' s' /\ tn i s'.heap /\ (∀ b ∈ fp, H' b = none) /\ W i n σ' H') ?_ m0 ⟨0, σ, H2, I2, st2, fun b hb => (f2 b hb).1, w0⟩
 rintro n s3 ⟨i, σ3, H3, I3, st3, fr3, w3⟩
 rcases turn i n σ3 H3 w3 with ⟨stop, qn⟩ | ⟨go, N, hN, step⟩
 ·refine wpAny_passesOwn hp (thn (T.done X rfl rfl rfl hc i pins s3 σ3 H3 X.xe I3 (stat fr3) st3 stop) fun r s4 ⟨hr, I4⟩ => ?_)
  subst hr
  exact wpAny_execs_nil ⟨σ3, H3, I4, qn⟩
 ·refine wpAny_passesOwn hp (thn (T.item X rfl rfl rfl hc i pins s3 σ3 H3 X.xe I3 (stat fr3) st3 go) fun r s4 ⟨u, hr, h4⟩ => ?_)
  subst hr
  refine wpAny_passesOwn hp (thn h4 fun _ s5 ⟨x, H5, I5, r5, y5, st5, fr5⟩ => ?_)
  have I5' := I5.pinned (stat fr5) (T.obj _ _ st5)
  refine wpAny_passesOwn hp (thn (hg _ s5 σ3 H5 x u _ I5' r5 (step x H5 y5)) fun _ s6 ⟨σ6, H6, I6, q6⟩ => ?_)
  refine wpAny_passesOwn hp (thn (hb _ s6 σ6 H6 _ I6 q6) fun f s7 q7 => ?_)
  have again : ∀ {σ7 : St} {H7 : Hp}, Inv X (pins ++ km fp s5.heap) σ7 H7 s7 -> N σ7 H7 -> ∃ m, m < n /\ ∃ i σ' H', Inv X pins σ' H' s7 /\ tn i s7.heap /\ (∀ b ∈ fp, H' b = none) /\ W i m σ' H' := fun {σ7 H7} I7 n7 => by
   obtain ⟨m', hm, w7⟩ := hN σ7 H7 n7
   refine ⟨m', hm, i + 1, σ7, H7, I7.unpinned, T.keep _ _ _ st5 fun b hb o e => (I7.pin (b, o) (g0v _ (g0v _ (xQ hb e)))).1, fun b hb => ?_, w7⟩
   obtain ⟨o, e, d⟩ := T.obj _ _ st5 b hb
   exact (I7.pin (b, o) (g0v _ (g0v _ (xQ hb e)))).2.1
  cases f with
  | next => obtain ⟨σ7, H7, I7, n7⟩ := q7; exact again I7 n7
  | cont => obtain ⟨σ7, H7, I7, n7⟩ := q7; exact again I7 n7
  | brk => obtain ⟨σ7, H7, I7, q7⟩ := q7; exact ⟨σ7, H7, I7.unpinned, q7⟩
  | ret v => obtain ⟨x7, σ7, H7, I7, r7, q7⟩ := q7; exact ⟨x7, σ7, H7, I7.unpinned, r7, q7⟩
end
abbrev R2 := V -> V -> Hp -> VK -> Prop
def OpR (X : Cx) (f : Value -> Value -> Sem Value) (r : R2) : Prop :=
 ∀ (pins : List (Addr × Obj)) (s : Shared) (σ : St) (H : Hp) (x y : V) (v u : Value) (Q : VK), Inv X pins σ H s -> xU x v -> xU y u -> r x y H Q →
  wpAny (model X.prog X.w) X.A (f v u) (EP X pins σ Q) X.xe s
def UnR (X : Cx) (f : Value -> Sem Value) (r : V -> Hp -> VK -> Prop) : Prop :=
 ∀ (pins : List (Addr × Obj)) (s : Shared) (σ : St) (H : Hp) (x : V) (v : Value) (Q : VK), Inv X pins σ H s -> xU x v -> r x H Q →
  wpAny (model X.prog X.w) X.A (f v) (EP X pins σ Q) X.xe s
def uN (X : Cx) (f : Value) (r : List V -> Hp -> VK -> Prop) : Prop :=
 ∀ (pins : List (Addr × Obj)) (s : Shared) (σ : St) (H : Hp) (xs : List V) (us : List Value) (Q : VK), Inv X pins σ H s -> xf xs us -> r xs H Q →
  wpAny (model X.prog X.w) X.A (call f us) (EP X pins σ Q) X.xe s
def tOp (r : R2) (ta tb : TE) : TE := fun σ H Q => ta σ H fun x H1 => tb σ H1 fun y H2 => r x y H2 Q
def tUn (r : V -> Hp -> VK -> Prop) (ta : TE) : TE := fun σ H Q => ta σ H fun x H1 => r x H1 Q
def rI (C : Int -> Int -> Prop) (g : Int -> Int -> V) : R2 := fun x y H Q => ∃ i j, x = .int i /\ y = .int j /\ C i j /\ Q (g i j) H
def rI0 (g : Int -> Int -> V) : R2 := fun x y H Q => ∃ i j, x = .int i /\ y = .int j /\ Q (g i j) H
def rU (g : Int -> V) : V -> Hp -> VK -> Prop := fun x H Q => ∃ i, x = .int i /\ Q (g i) H
section
variable {X : Cx} {a b c : Expr} {ta tb tc : TE} {pos : Pos}
theorem MH (ha : PE X a ta) (hb : PE X b tb) {pins : List (Addr × Obj)} {s : Shared} {σ : St} {H : Hp} {R : V -> V -> Hp -> Prop} (I : Inv X pins σ H s)
  (h : ta σ H fun x H1 => tb σ H1 fun y H2 => R x y H2) {Q : Value -> Shared -> Prop} {f : Value -> Value -> Sem Value}
  (hf : ∀ v u s2 x y H2, Inv X pins σ H2 s2 -> xU x v -> xU y u -> R x y H2 -> wpAny (model X.prog X.w) X.A (f v u) Q X.xe s2) :
  wpAny (model X.prog X.w) X.A (eval a X.env) (fun v s₁ => wpAny (model X.prog X.w) X.A (eval b X.env) (fun u s₂ => wpAny (model X.prog X.w) X.A (f v u) Q X.xe s₂) X.xe s₁) X.xe s := by
 refine thn (ha pins s σ H _ I h) fun v s1 ⟨x, H1, I1, r1, q1⟩ => ?_
 refine thn (hb pins s1 σ H1 _ I1 q1) fun u s2 ⟨y, H2, I2, r2, q2⟩ => ?_
 exact hf v u s2 x y H2 I2 r1 r2 q2
theorem C9 {op : Operator} {r : R2} (ho : OpR X (binaryOp op) r) (ha : PE X a ta) (hb : PE X b tb) : PE X (.BinOp a op b pos) (tOp r ta tb) := by
 intro pins s σ H Q I h
 exact wpAny_BinOp (MH ha hb I h fun v u s2 x y H2 I2 rx ry q => ho pins s2 σ H2 x y v u Q I2 rx ry q)
theorem Mi {op : UnaryOp} {r : V -> Hp -> VK -> Prop} (ho : UnR X (unaryOp op) r) (ha : PE X a ta) : PE X (.UnaryOp op a pos) (tUn r ta) := by
 intro pins s σ H Q I h
 exact UnaryOp_ (thn (ha pins s σ H _ I h) fun v s1 ⟨x, H1, I1, r1, q1⟩ => ho pins s1 σ H1 x v Q I1 r1 q1)
theorem opI {f : Value -> Value -> Sem Value} {C : Int -> Int -> Prop} {g : Int -> Int -> Int}
  (rule : ∀ (i j : Int) (t u : Tok) (s : Shared) (Q : Value -> Shared -> Prop) (E : Value -> Shared -> Prop), C i j -> Q (.int (g i j) s.toks) { s with toks := s.toks + 1 } -> wpAny (model X.prog X.w) X.A (f (.int i t) (.int j u)) Q E s) :
  OpR X f (rI C fun i j => .int (g i j)) := by
 intro pins s σ H x y v u Q I rx ry h
 obtain ⟨i, j, rfl, rfl, hc, q⟩ := h
 obtain ⟨t, rfl⟩ := rx
 obtain ⟨t', rfl⟩ := ry
 exact rule i j t t' s _ _ hc ⟨.int (g i j), H, I.tok _, ⟨_, rfl⟩, q⟩
theorem M5 {f : Value -> Value -> Sem Value} {g : Int -> Int -> Int}
  (rule : ∀ (i j : Int) (t u : Tok) (s : Shared) (Q : Value -> Shared -> Prop) (E : Value -> Shared -> Prop), Q (.int (g i j) s.toks) { s with toks := s.toks + 1 } -> wpAny (model X.prog X.w) X.A (f (.int i t) (.int j u)) Q E s) :
  OpR X f (rI0 fun i j => .int (g i j)) := by
 intro pins s σ H x y v u Q I rx ry h
 obtain ⟨i, j, rfl, rfl, q⟩ := h
 obtain ⟨t, rfl⟩ := rx
 obtain ⟨t', rfl⟩ := ry
 exact rule i j t t' s _ _ ⟨.int (g i j), H, I.tok _, ⟨_, rfl⟩, q⟩
theorem Fv {f : Value -> Value -> Sem Value} {g : Int -> Int -> Bool}
  (rule : ∀ (i j : Int) (t u : Tok) (s : Shared) (Q : Value -> Shared -> Prop) (E : Value -> Shared -> Prop), Q (.bool (g i j)) s -> wpAny (model X.prog X.w) X.A (f (.int i t) (.int j u)) Q E s) :
  OpR X f (rI0 fun i j => .bl (g i j)) := by
 intro pins s σ H x y v u Q I rx ry h
 obtain ⟨i, j, rfl, rfl, q⟩ := h
 obtain ⟨t, rfl⟩ := rx
 obtain ⟨t', rfl⟩ := ry
 exact rule i j t t' s _ _ ⟨.bl (g i j), H, I, rfl, q⟩
theorem Dm : OpR X (binaryOp .Add) (rI0 fun i j => .int (i + j)) := M5 fun _ _ _ _ _ _ _ q => add_int q
theorem Hr : OpR X (binaryOp .Sub) (rI0 fun i j => .int (i - j)) := M5 fun _ _ _ _ _ _ _ q => sub_int q
theorem Dj : OpR X (binaryOp .Mod) (rI (fun _ j => 0 < j) fun i j => .int (i % j)) := opI fun i j _ _ _ _ _ hc q => by
 have h1 : (0 : Int) < j := hc
 exact mod_int' (by omega) (by rw [Int.fmod_eq_emod_of_nonneg i (by omega)]; exact q)
theorem unI {f : Value -> Sem Value} {g : Int -> Int}
  (rule : ∀ (i : Int) (t : Tok) (s : Shared) (Q : Value -> Shared -> Prop) (E : Value -> Shared -> Prop), Q (.int (g i) s.toks) { s with toks := s.toks + 1 } -> wpAny (model X.prog X.w) X.A (f (.int i t)) Q E s) :
  UnR X f (rU fun i => .int (g i)) := by
 intro pins s σ H x v Q I rx h
 obtain ⟨i, rfl, q⟩ := h
 obtain ⟨t, rfl⟩ := rx
 exact rule i t s _ _ ⟨.int (g i), H, I.tok _, ⟨_, rfl⟩, q⟩
theorem CC : UnR X (unaryOp .USub) (rU fun i => .int (-i)) := unI fun _ _ _ _ _ q => neg_int q
end
section
variable {X : Cx} {a b c : Expr} {ta tb tc : TE} {pos : Pos}
theorem Uj {pins : List (Addr × Obj)} {σ : St} {H : Hp} {s : Shared} {Q : VK} {k k' : Bool} (I : Inv X pins σ H s) (q : Q (.bl k) H) (e : k = k') : EP X pins σ Q (.bool k') s := by
 subst e
 exact ⟨.bl k, H, I, rfl, q⟩
theorem UQ : OpR X (compareOp .Lt) (rI0 fun i j => .bl (decide (i < j))) := Fv fun _ _ _ _ _ _ _ q => lt_int q
theorem UR : OpR X (compareOp .LtE) (rI0 fun i j => .bl (decide (i <= j))) := Fv fun _ _ _ _ _ _ _ q => le_int q
theorem Dl : OpR X (compareOp .Gt) (rI0 fun i j => .bl (decide (j < i))) := Fv fun _ _ _ _ _ _ _ q => gt_int q
theorem Ml : OpR X (compareOp .GtE) (rI0 fun i j => .bl (decide (j <= i))) := Fv fun _ _ _ _ _ _ _ q => ge_int q
theorem Ji : OpR X (compareOp .In) (fun x y H Q => ∃ i j, x = .str i /\ y = .str j /\ Q (.bl (!(Builtin.Str.occurrences j i 0 j.length 1).isEmpty)) H) := by
 intro pins s σ H x y v u Q I rx ry h
 obtain ⟨i, j, rfl, rfl, q⟩ := h
 obtain ⟨t, rfl⟩ := rx
 obtain ⟨t', rfl⟩ := ry
 exact in_str (Uj I q rfl)
theorem Dk : OpR X (compareOp .Is) (fun x y H Q => y = .non /\ Q (.bl (decide (x = .non))) H) := by
 intro pins s σ H x y v u Q I rx ry h
 obtain ⟨rfl, q⟩ := h
 cases ry
 refine is_none_gen (Uj I q ?_)
 cases x <;> first
  | (cases rx; rfl)
  | (obtain ⟨t, rfl⟩ := rx; rfl)
theorem Bo : OpR X (compareOp .IsNot) (fun x y H Q => y = .non /\ Q (.bl (!decide (x = .non))) H) := by
 intro pins s σ H x y v u Q I rx ry h
 obtain ⟨rfl, q⟩ := h
 cases ry
 refine isnot_none_gen (Uj I q ?_)
 cases x <;> first
  | (cases rx; rfl)
  | (obtain ⟨t, rfl⟩ := rx; rfl)
theorem XQ : OpR X (compareOp .NotIn) (fun x y H Q => ∃ i j, x = .str i /\ y = .str j /\ Q (.bl (!(!(Builtin.Str.occurrences j i 0 j.length 1).isEmpty))) H) := by
 intro pins s σ H x y v u Q I rx ry h
 obtain ⟨i, j, rfl, rfl, q⟩ := h
 obtain ⟨t, rfl⟩ := rx
 obtain ⟨t', rfl⟩ := ry
 exact notIn_str (Uj I q rfl)
theorem OpR.or {f : Value -> Value -> Sem Value} {r r' : R2} (h : OpR X f r) (h' : OpR X f r') : OpR X f (fun x y H Q => r x y H Q \/ r' x y H Q) := by
 intro pins s σ H x y v u Q I rx ry q
 rcases q with q | q
 ·exact h pins s σ H x y v u Q I rx ry q
 ·exact h' pins s σ H x y v u Q I rx ry q
theorem u5 (b : Expr) {op : CmpOp} (h : op ≠ .In := by decide) (h2 : op ≠ .NotIn := by decide) : behindInMarks op b = false := by
 have e1 : (op == CmpOp.In) = false := by cases op <;> first | rfl | exact absurd rfl h
 have e2 : (op == CmpOp.NotIn) = false := by cases op <;> first | rfl | exact absurd rfl h2
 cases b <;> simp [behindInMarks, e1, e2]
theorem Bl {op : CmpOp} {r : R2} (ho : OpR X (compareOp op) r) (ha : PE X a ta) (hb : PE X b tb) (hm : behindInMarks op b = false) : PE X (.Compare a [op] [b] pos) (tOp r ta tb) := by
 intro pins s σ H Q I h
 exact wpAny_Compare1 (MH ha hb I h fun v u s2 x y H2 I2 rx ry q => ho pins s2 σ H2 x y v u Q I2 rx ry q) hm
def CH (t : TE) : TT := fun σ H Q => t σ H fun x H' => ∃ k, x = .bl k /\ Q k H'
theorem Q7 {op : CmpOp} {r : R2} (ho : OpR X (compareOp op) r) (ha : PE X a ta) (hb : PE X b tb) (hm : behindInMarks op b = false) : PT X (.Compare a [op] [b] pos) (CH (tOp r ta tb)) := by
 intro pins s σ H Q I h
 refine wpAny_isTrue_Compare1 (thn (ha pins s σ H _ I h) fun v s1 ⟨x, H1, I1, r1, q1⟩ => thn (hb pins s1 σ H1 _ I1 q1) fun u s2 ⟨y, H2, I2, r2, q2⟩ =>
  thn (ho pins s2 σ H2 x y v u _ I2 r1 r2 q2) fun c s3 ⟨z, H3, I3, r3, k, e, q3⟩ => ?_) hm
 subst e
 cases r3
 exact wpAny_truthy_bool ⟨H3, I3, q3⟩
def QH (r r' : R2) (ta tb tc : TE) : TE := fun σ H Q => ta σ H fun x H1 => tb σ H1 fun y H2 => r x y H2 fun z H3 => ∃ k, z = .bl k ∧
 (if k = true then tc σ H3 fun w' H4 => r' y w' H4 Q else Q (.bl false) H3)
theorem K8 {op op' : CmpOp} {r r' : R2} (ho : OpR X (compareOp op) r) (ho' : OpR X (compareOp op') r') (ha : PE X a ta) (hb : PE X b tb) (hc : PE X c tc)
  (hm : lastMarks [op, op'] [b, c] = false := by with_unfolding_all rfl) : PE X (.Compare a [op, op'] [b, c] pos) (QH r r' ta tb tc) := by
 intro pins s σ H Q I h
 refine Compare_chain (thn (ha pins s σ H _ I h) fun v s1 ⟨x, H1, I1, r1, q1⟩ => chain_link (thn (hb pins s1 σ H1 _ I1 q1) fun u s2 ⟨y, H2, I2, r2, q2⟩ =>
  thn (ho pins s2 σ H2 x y v u _ I2 r1 r2 q2) fun d s3 ⟨z, H3, I3, r3, k, e, q3⟩ => ?_)) hm
 subst e
 cases r3
 refine wpAny_truthy_bool ?_
 cases k with
 | false => exact ite_ff ⟨.bl false, H3, I3, rfl, q3⟩
 | true => exact ite_tt (chain_last (thn (hc pins s3 σ H3 _ I3 q3) fun w' s4 ⟨z', H4, I4, r4, q4⟩ => ho' pins s4 σ H4 y z' u w' Q I4 r2 r4 q4))
theorem K2 {op op' : CmpOp} {r r' : R2} (ho : OpR X (compareOp op) r) (ho' : OpR X (compareOp op') r') (ha : PE X a ta) (hb : PE X b tb) (hc : PE X c tc)
  (hm : lastMarks [op, op'] [b, c] = false := by with_unfolding_all rfl) : PT X (.Compare a [op, op'] [b, c] pos) (CH (QH r r' ta tb tc)) := by
 intro pins s σ H Q I h
 refine isTrue_chain (thn (ha pins s σ H _ I h) fun v s1 ⟨x, H1, I1, r1, q1⟩ => test_link (thn (hb pins s1 σ H1 _ I1 q1) fun u s2 ⟨y, H2, I2, r2, q2⟩ =>
  thn (ho pins s2 σ H2 x y v u _ I2 r1 r2 q2) fun d s3 ⟨z, H3, I3, r3, k, e, q3⟩ => ?_)) hm
 subst e
 cases r3
 refine wpAny_truthy_bool ?_
 cases k with
 | false =>
  obtain ⟨k', e', q'⟩ := q3
  cases e'
  exact ite_ff ⟨H3, I3, q'⟩
 | true =>
  refine ite_tt (test_last (thn (hc pins s3 σ H3 _ I3 q3) fun w' s4 ⟨z', H4, I4, r4, q4⟩ => thn (ho' pins s4 σ H4 y z' u w' _ I4 r2 r4 q4) fun d' s5 ⟨z2, H5, I5, r5, k2, e2, q5⟩ => ?_))
  subst e2
  cases r5
  exact wpAny_truthy_bool ⟨H5, I5, q5⟩
theorem qK : (sizeLine : Nat) < 2 ^ 63 := by rw [sizeLine_eq]; decide
theorem US : OpR X (binaryOp .Add) (fun x y H Q => ∃ i j, x = .str i /\ y = .str j /\ i.length + j.length <= sizeLine /\ Q (.str (i ++ j)) H) := by
 intro pins s σ H x y v u Q I rx ry h
 obtain ⟨i, j, rfl, rfl, hz, q⟩ := h
 obtain ⟨t, rfl⟩ := rx
 obtain ⟨t', rfl⟩ := ry
 exact add_str (fun t' tk => ⟨.str (i ++ j), H, I.tok _, ⟨_, rfl⟩, q⟩) hz
theorem WL {x : V} {us : List Value} (r : xf [x] us) : ∃ u, us = [u] /\ xU x u := by
 cases r with
 | cons r1 r2 => cases r2; exact ⟨_, rfl, r1⟩
theorem HK {x y : V} {us : List Value} (r : xf [x, y] us) : ∃ u w', us = [u, w'] /\ xU x u /\ xU y w' := by
 cases r with
 | cons r1 r2 =>
  cases r2 with
  | cons r3 r4 => cases r4; exact ⟨_, _, rfl, r1, r3⟩
theorem ZH (hc : X.calm = true) : uN X (.builtin "max") (fun xs H Q => ∃ i j, xs = [.int i, .int j] /\ Q (.int (if j > i then j else i)) H) := by
 intro pins s σ H xs us Q I r h
 obtain ⟨i, j, rfl, q⟩ := h
 obtain ⟨u, w', rfl, ⟨t, rfl⟩, ⟨t', rfl⟩⟩ := HK r
 refine max_two_ints (I.ok.hd hc) fun h' tk k => ⟨_, H, I.kept k, ?_, q⟩
 by_cases hj : j > i
 ·rw [if_pos hj, if_pos hj]; exact ⟨_, rfl⟩
 ·rw [if_neg hj, if_neg hj]; exact ⟨_, rfl⟩
theorem ZG (hc : X.calm = true) : uN X (.builtin "min") (fun xs H Q => ∃ i j, xs = [.int i, .int j] /\ Q (.int (if j < i then j else i)) H) := by
 intro pins s σ H xs us Q I r h
 obtain ⟨i, j, rfl, q⟩ := h
 obtain ⟨u, w', rfl, ⟨t, rfl⟩, ⟨t', rfl⟩⟩ := HK r
 refine min_two_ints (I.ok.hd hc) fun h' tk k => ⟨_, H, I.kept k, ?_, q⟩
 by_cases hj : j < i
 ·rw [if_pos hj, if_pos hj]; exact ⟨_, rfl⟩
 ·rw [if_neg hj, if_neg hj]; exact ⟨_, rfl⟩
theorem vH : uN X (.type "int") (fun xs H Q => (∃ i, xs = [.int i] /\ Q (.int i) H) \/ ∃ k, xs = [.bl k] /\ Q (.int (if k then 1 else 0)) H) := by
 intro pins s σ H xs us Q I r h
 rcases h with ⟨i, rfl, q⟩ | ⟨k, rfl, q⟩
 ·obtain ⟨u, rfl, t, rfl⟩ := WL r
  exact call_int_int ⟨.int i, H, I, ⟨_, rfl⟩, q⟩
 ·obtain ⟨u, rfl, r1⟩ := WL r
  cases r1
  exact call_int_bool ⟨.int (if k then 1 else 0), H, I.tok _, ⟨_, rfl⟩, q⟩
end
structure ObjM (h : Heap) (x dx C : Addr) (mA : Str -> Option Value) : Prop where
 obj : h.get? x = some (PySem.W.instObj C dx)
 ns : h.Ns1 dx mA
 ne : dx ≠ x
theorem JI {h : Heap} {dx : Addr} {mA : Str -> Option Value} (n : h.Ns1 dx mA) : ∃ od, h.get? dx = some od /\ ∀ name, PySem.W.lookIn name od = some (mA name) := by
 obtain ⟨o, es, ep, ho, hd, hk, _, hm⟩ := n
 refine ⟨o, ho, fun name => ?_⟩
 have e := hm name
 unfold nsFind findBy at e
 rw [<- Array.find?_toList] at e
 unfold PySem.W.lookIn
 rw [hd]
 dsimp only
 split
 ·rename_i y q
  rw [q] at e
  exact congrArg some e
 ·rename_i q
  rw [q] at e
  have a : es.toList.any (·.refKey) = false := by
   rw [List.any_eq_false]
   intro y hy
   obtain ⟨z, t, hkey⟩ := hk y (Array.mem_toList_iff.mp hy)
   simp [DictEntry.refKey, hkey]
  have a' : ¬ es.toList.any (·.refKey) = true := by rw [a]; exact g1q
  rw [if_neg a']
  exact congrArg some e
theorem ObjM.look {h : Heap} {x dx C : Addr} {mA : Str -> Option Value} (I : ObjM h x dx C mA) : ∃ od, PySem.W.InstAt h x (PySem.W.instObj C dx) C (some od) /\ ∀ name, PySem.W.lookIn name od = some (mA name) :=
 let ⟨od, ho, hl⟩ := JI I.ns
 ⟨od, ⟨I.obj, rfl, rfl, ho⟩, hl⟩
section
variable {prog : Program} {w : World} {A : Around} {E : Value -> Shared -> Prop} {s : Shared} {K : W.Frag} {x dx C f : Addr} {mA : Str -> Option Value} {name : Str} {v : Value}
theorem BW {expr : Bool} {Q : Value -> Shared -> Prop} (X : K.In s.heap) (I : ObjM s.heap x dx C mA) (hg : PySem.W.plainGet K C name = true) (hh : PySem.W.hasDictIn K C = true)
  (ha : PySem.W.findIn K (.ref C) name = some none) (hv : mA name = some v) (hv' : PySem.W.handedIn v = true) (h : Q v { s with toks := s.toks + 1 }) :
  wpAny (model prog w) A (getAttr (.ref x) name expr) Q E s := by
 obtain ⟨od, J, hl⟩ := I.look
 exact PySem.W.get_value X J (PySem.W.plainGet_of hg).1 (PySem.W.findObj_own hh ha rfl (by rw [hl, hv])) hv' h
theorem GK {pl : Sem Bool} {Q : Value × List Value -> Shared -> Prop} (X : K.In s.heap) (I : ObjM s.heap x dx C mA) (hg : PySem.W.plainGet K C name = true)
  (hf : PySem.W.findIn K (.ref C) name = some (some (.ref f))) (ht : PySem.W.isFn K (.ref f) = true) (hv : mA name = none) (h : Q (.ref f, [.ref x]) s) :
  wpAny (model prog w) A (getMethod (.ref x) name pl) Q E s := by
 obtain ⟨od, J, hl⟩ := I.look
 exact PySem.W.method_fn X J (PySem.W.plainGet_of hg).1 (PySem.W.plainGet_of hg).2 hf (beq_iff_eq.mp ht) (by show (PySem.W.lookIn name od).map (·.isSome) = some false; rw [hl, hv]; rfl) h
theorem HS {ns : List Str} {Q : Unit -> Shared -> Prop} (X : K.In s.heap) (I : ObjM s.heap x dx C mA)
  (hs : PySem.W.findIn K (.ref C) "__setattr__" = some (some (.builtin "object.__setattr__"))) (hp : PySem.W.plainOver K C = true) (ht : PySem.W.takerIn K C name = some none) (hh : PySem.W.hasDictIn K C = true)
  (hw : PySem.Within mA ns) (hsz : ns.length <= sizeLine)
  (h : ∀ h', ObjM h' x dx C (fun y => if y = name then some v else mA y) -> Heap.SameBut dx s.heap h' -> Q () { s with heap := h', toks := s.toks + 2 }) :
  wpAny (model prog w) A (setAttr (.ref x) name v) Q E s := by
 obtain ⟨od, J, hl⟩ := I.look
 refine PySem.W.set_plain X J hs (PySem.W.osa_open (s := { s with toks := s.toks + 1 }) (r := none) X J hp ht fun b => ?_)
 obtain ⟨cd, hc, hd'⟩ := PySem.W.any_some hh
 have hx : s.heap.get? x = some ⟨.ref C, some dx, .plain, #[]⟩ := I.obj
 refine wpAny_bind (wpAny_pure (wpAny_bind (wpAny_bind (wpAny_loadPart hx (wpAny_bind (PySem.W.Looks.here (s := { s with toks := s.toks + 1 }) (PySem.W.looks_clsIn X hc) ?_))))))
 rw [hd']
 refine wpAny_pure (a := some dx) (wpAny_bind (wpAny_pure (wpAny_bind ?_)))
 refine wpAny_nsSet1 (s := { s with toks := s.toks + 1 }) I.ns fun h' hn2 hs2 => ?_
 obtain ⟨oD, esD, epD, hoD, hdD, hcD⟩ := hn2.count (PySem.Within.cons name v hw)
 refine wpAny_bind (wpAny_lookBehind hoD (by rw [hdD]; exact pastItsLine_dict (g2a hcD (by rw [g0d]; omega))) ?_)
 exact wpAny_pure (h _ ⟨(hs2.2 _ (Ne.symm I.ne)).trans I.obj, hn2, I.ne⟩ hs2)
theorem Gu {R : Result -> Shared -> Prop} {vs : List Value} {kw : List (Str × Value)} (X : K.In s.heap) (hm : PySem.W.makesIn K C = true)
  (hi : PySem.W.findIn K (.ref C) "__init__" = some (some (.ref f))) (hf : PySem.W.typeIn K (.ref f) = some (.type "function"))
  (h : codeAny (model prog w) (A.under (.builtin "type.__call__" ⟨.ref C :: vs, kw⟩)) (.call (.ref f) ⟨.ref (s.heap.objs.size + 1) :: vs, kw⟩) (PySem.W.InitBack (s.heap.objs.size + 1) R)
   { s with heap := (s.heap.push PySem.W.emptyDict).push (PySem.W.instObj C s.heap.objs.size) }) :
  codeAny (model prog w) A (.call (.ref C) ⟨vs, kw⟩) R s := by
 obtain ⟨hh, g, d, t, os⟩ := s
 exact PySem.W.make_core (PySem.W.makes_of X hm) (PySem.W.looks_findIn X hi) (fun self => PySem.W.bind_fn X self hf) (.inl rfl) h
end
def kj (f : Str) (v : V) : List (Str × V) -> List (Str × V)
 | [] => [(f, v)]
 | (g, x) :: r => if g = f then (g, v) :: r else (g, x) :: kj f v r
theorem yC (f g : Str) (v : V) : ∀ fs : List (Str × V), (kj f v fs).lookup g = if g = f then some v else fs.lookup g
 | [] => by
  show g1y g [(f, v)] = _
  by_cases h : g = f
  ·have hb : (g == f) = true := beq_iff_eq.mpr h
   simp only [g1y, hb, if_pos h]
  ·have hb : (g == f) = false := beq_eq_false_iff_ne.mpr h
   simp only [g1y, hb, if_neg h]
 | (k, x) :: r => by
  have ih := yC f g v r
  rw [show kj f v ((k, x) :: r) = (if k = f then (k, v) :: r else (k, x) :: kj f v r) from rfl]
  by_cases hk : k = f
  ·rw [if_pos hk]
   by_cases h : g = k
   ·have hb : (g == k) = true := beq_iff_eq.mpr h
    simp only [g1y, hb, if_pos (h.trans hk)]
   ·have hb : (g == k) = false := beq_eq_false_iff_ne.mpr h
    simp only [g1y, hb, if_neg (fun e : g = f => h (e.trans hk.symm))]
  ·rw [if_neg hk]
   by_cases h : g = k
   ·have hb : (g == k) = true := beq_iff_eq.mpr h
    simp only [g1y, hb, if_neg (fun e : g = f => hk (h.symm.trans e))]
   ·have hb : (g == k) = false := beq_eq_false_iff_ne.mpr h
    simp only [g1y, hb]
    exact ih
theorem Zw (f : Str) (v : V) : ∀ fs : List (Str × V), f ∈ (kj f v fs).map (·.1) /\ ∀ g, g ∈ fs.map (·.1) -> g ∈ (kj f v fs).map (·.1)
 | [] => ⟨by simp [kj], fun g h => by simp at h⟩
 | (k, x) :: r => by
  obtain ⟨i1, i2⟩ := Zw f v r
  rw [show kj f v ((k, x) :: r) = (if k = f then (k, v) :: r else (k, x) :: kj f v r) from rfl]
  by_cases hk : k = f
  ·rw [if_pos hk]
   subst hk
   exact ⟨by simp, fun g h => by simpa using h⟩
  ·rw [if_neg hk]
   refine ⟨?_, fun g h => ?_⟩
   ·rw [g0f]
    exact g0m _ i1
   ·rw [g0f] at h ⊢
    rcases g0q.mp h with e | e
    ·exact g0q.mpr (.inl e)
    ·exact g0m _ (i2 g e)
theorem Zu (f : Str) (v : V) : ∀ fs : List (Str × V), (kj f v fs).length <= fs.length + 1
 | [] => by simp [kj]
 | (k, x) :: r => by
  have ih := Zu f v r
  rw [show kj f v ((k, x) :: r) = (if k = f then (k, v) :: r else (k, x) :: kj f v r) from rfl]
  by_cases hk : k = f
  ·rw [if_pos hk, g0d, g0d]; omega
  ·rw [if_neg hk, g0d, g0d]; omega
theorem KA.some_of {v : V} {o : Option Value} (r : KA (some v) o) : ∃ u, o = some u /\ xU v u := by
 cases o with
 | none => exact (show False from r).elim
 | some u => exact ⟨u, rfl, r⟩
theorem KA.none_of {o : Option Value} (r : KA none o) : o = none := by
 cases o with
 | none => rfl
 | some u => exact (show False from r).elim
theorem JX {v : V} {u : Value} (r : xU v u) : PySem.W.handedIn u = true := by
 cases v with
 | non => cases (show u = Value.none from r); rfl
 | bl b => cases (show u = Value.bool b from r); rfl
 | int i => obtain ⟨t, e⟩ := (show ∃ t, u = Value.int i t from r); cases e; rfl
 | str x => obtain ⟨t, e⟩ := (show ∃ t, u = Value.str x t from r); cases e; rfl
 | byt b => obtain ⟨t, e⟩ := (show ∃ t, u = Value.bytes b t from r); cases e; rfl
 | flt b => obtain ⟨t, e⟩ := (show ∃ t, u = Value.float b t from r); cases e; rfl
 | ref a => cases (show u = Value.ref a from r); rfl
 | ty n => cases (show u = Value.type n from r); rfl
section
variable {P : Program} {w : World} {H H' : Hp} {h h' : Heap} {a C dx : Addr} {fs fs' : List (Str × V)}
theorem Vk (hok : HOk P w H h) (e : H a = some (.ins C dx fs)) : ∃ mA, ObjM h a dx C mA /\ (∀ f, KA (fs.lookup f) (mA f)) /\ PySem.Within mA (fs.map (·.1)) /\ fs.length <= 1000 /\ H dx = some (.own a) := by
 obtain ⟨d, z, ne, ob, mA, n, r, q⟩ := (show qq P w H h a (.ins C dx fs) from hok a _ e)
 exact ⟨mA, ⟨ob, n, ne⟩, r, q, z, d⟩
end
structure Cls (K : W.Frag) (C : Addr) : Prop where
 pg : PySem.W.plainGet K C Str.empty = true
 hd : PySem.W.hasDictIn K C = true
 po : PySem.W.plainOver K C = true
 sa : PySem.W.findIn K (.ref C) "__setattr__" = some (some (.builtin "object.__setattr__"))
theorem Cls.get {K : W.Frag} {C : Addr} (c : Cls K C) (f : Str) : PySem.W.plainGet K C f = true := c.pg
def xA (K : W.Frag) (C : Addr) (f : Str) : Prop := PySem.W.findIn K (.ref C) f = some none
theorem xA.taker {K : W.Frag} {C : Addr} {f : Str} (n : xA K C f) : PySem.W.takerIn K C f = some none := by
 unfold PySem.W.takerIn
 rw [show PySem.W.findIn K (.ref C) f = some none from n]
 rfl
structure Meth (K : W.Frag) (C : Addr) (m : Str) (f : Addr) : Prop where
 at_ : PySem.W.findIn K (.ref C) m = some (some (.ref f))
 fn : PySem.W.isFn K (.ref f) = true
 kp : W.keepIn K (.ref f) = true
section
variable {X : Cx} {pins : List (Addr × Obj)} {σ : St} {H : Hp} {s : Shared} {a C dx : Addr} {fs : List (Str × V)} {f : Str} {v : V} {A : Around} {E : Value -> Shared -> Prop}
theorem Qc {b : Bool} {Q : Value -> Shared -> Prop} (I : Inv X pins σ H s) (e : H a = some (.ins C dx fs)) (c : Cls X.K C) (n : xA X.K C f) (l : fs.lookup f = some v)
  (h : ∀ u s', Inv X pins σ H s' -> xU v u -> Q u s') : wpAny (model X.prog X.w) A (getAttr (.ref a) f b) Q E s := by
 obtain ⟨mA, O, r, _, _, _⟩ := Vk I.hok e
 obtain ⟨u, hu, ru⟩ := KA.some_of (v := v) (o := mA f) (by rw [<- l]; exact r f)
 exact BW I.kIn O (c.get f) c.hd n hu (JX ru) (h u _ (I.tok _) ru)
theorem jT {m : Str} {g : Addr} {pl : Sem Bool} {Q : Value × List Value -> Shared -> Prop} (I : Inv X pins σ H s) (e : H a = some (.ins C dx fs)) (c : Cls X.K C) (k : Meth X.K C m g) (l : fs.lookup m = none)
  (h : Q (.ref g, [.ref a]) s) : wpAny (model X.prog X.w) A (getMethod (.ref a) m pl) Q E s := by
 obtain ⟨mA, O, r, _, _, _⟩ := Vk I.hok e
 have hn : mA m = none := KA.none_of (by rw [<- l]; exact r m)
 exact GK I.kIn O (c.get m) k.at_ k.fn hn h
theorem UF {y : V} {u : Value} {Q : Unit -> Shared -> Prop} (I : Inv X pins σ H s) (e : H a = some (.ins C dx fs)) (c : Cls X.K C) (n : xA X.K C f) (hl : fs.length < 1000) (ry : xU y u)
  (h : ∀ s', Inv X pins σ (upd H a (.ins C dx (kj f y fs))) s' -> Q () s') : wpAny (model X.prog X.w) A (setAttr (.ref a) f u) Q E s := by
 obtain ⟨mA, O, r, wi, _, ho⟩ := Vk I.hok e
 have hz : (fs.map (·.1)).length <= sizeLine := by rw [g1j, sizeLine_eq]; omega
 refine HS I.kIn O c.sa c.po n.taker c.hd wi hz fun h' O' sb => h _ ?_
 have hd : ∃ o, h'.get? dx = some o := let ⟨o, _, _, e', _⟩ := O'.ns; ⟨o, e'⟩
 refine I.write (x := a) (e := dx) (by rw [e]; exact True.intro) (.inr ho) (fun b q hb z => (sb.2 b hb).trans z) hd ?_
 refine ⟨by rw [zE O.ne]; exact ho, ?_, O.ne, O'.obj, _, O'.ns, fun g => ?_, fun g hg => ?_⟩
 ·have := Zu f y fs; omega
 ·show KA ((kj f y fs).lookup g) (if g = f then some u else mA g)
  rw [yC]
  by_cases q : g = f
  ·rw [if_pos q, if_pos q]; exact ry
  ·rw [if_neg q, if_neg q]; exact r g
 ·by_cases q : g = f
  ·rw [q]; exact (Zw f y fs).1
  ·refine (Zw f y fs).2 g (wi g fun z => hg ?_)
   show (if g = f then some u else mA g) = none
   rw [if_neg q]; exact z
theorem Inv.made (I : Inv X pins σ H s) : Inv X pins σ (upd (upd H s.heap.objs.size (.own (s.heap.objs.size + 1))) (s.heap.objs.size + 1) (.ins C s.heap.objs.size []))
  { s with heap := (s.heap.push PySem.W.emptyDict).push (PySem.W.instObj C s.heap.objs.size) } := by
 have e1 : (s.heap.push PySem.W.emptyDict).get? s.heap.objs.size = some PySem.W.emptyDict := Heap.get?_push_size s.heap rfl
 have e2 : ((s.heap.push PySem.W.emptyDict).push (PySem.W.instObj C s.heap.objs.size)).get? (s.heap.objs.size + 1) = some (PySem.W.instObj C s.heap.objs.size) := by
  have := Heap.get?_push_size (s.heap.push PySem.W.emptyDict) (o := PySem.W.instObj C s.heap.objs.size) rfl
  rwa [Heap.size_push] at this
 have e3 : (s.heap.push PySem.W.emptyDict).Ns s.heap.objs.size (fun _ => none) := ⟨PySem.W.emptyDict, #[], _, e1, rfl, (fun e he => absurd he (by simp)), fun _ => rfl⟩
 have I1 := I.laid (a := s.heap.objs.size) (o := .own (s.heap.objs.size + 1)) (h' := s.heap.push PySem.W.emptyDict) (t' := s.toks) (fun b u q => Heap.get?_push_of_some _ q) (g0r _) ⟨_, e1⟩
 refine I1.laid (a := s.heap.objs.size + 1) (o := .ins C s.heap.objs.size []) (t' := s.toks) (fun b u q => Heap.get?_push_of_some _ q) (Nat.le_of_eq (Heap.size_push _ _)) ?_
 have ne : s.heap.objs.size ≠ s.heap.objs.size + 1 := g1g (g2q _)
 refine ⟨by rw [zE ne, zz], g2e _, ne, e2, fun _ => none, (Heap.Ns1.of_empty e3).at fun o q => Heap.get?_push_of_some _ q, fun _ => True.intro, fun y hy => absurd rfl hy⟩
theorem Cn {prog : Program} {w : World} {env : Env} {e : Expr} {f : Str} {pos : Pos} {s : Shared} {Q : Value -> Shared -> Prop} (hb : attributeBase e f env (eval e env) = eval e env)
  (h : wpAny (model prog w) A (eval e env) (fun o s₁ => wpAny (model prog w) A (getAttr o f true) Q E s₁) E s) : wpAny (model prog w) A (eval (.Attribute e f pos) env) Q E s :=
 Attribute_any_ h (by rw [arm_eval_Attribute, hb])
end
def Nk (K : W.Frag) (ta : TE) (f : Str) : TE := fun σ H Q => ta σ H fun x H1 => ∃ a C dx fs v, x = .ref a /\ H1 a = some (.ins C dx fs) /\ Cls K C /\ xA K C f /\ fs.lookup f = some v /\ Q v H1
def Nu (K : W.Frag) (ta tv : TE) (f : Str) : TS := fun D σ H => tv σ H fun y H1 => ta σ H1 fun x H2 => ∃ a C dx fs, x = .ref a /\ H2 a = some (.ins C dx fs) /\ Cls K C /\ xA K C f /\ fs.length < 1000 ∧
 D.nx σ (upd H2 a (.ins C dx (kj f y fs)))
section
variable {X : Cx} {o e value : Expr} {f : Str} {pos pos' tpos : Pos} {ta tv : TE}
theorem qI (he : PE X e ta) (hb : attributeBase e f X.env (eval e X.env) = eval e X.env) : PE X (.Attribute e f pos) (Nk X.K ta f) := by
 intro pins s σ H Q I h
 refine Cn hb (thn (he pins s σ H _ I h) fun u s1 ⟨x, H1, I1, rx, a, C, dx, fs, v, ex, ea, c, n, l, q⟩ => ?_)
 subst ex
 obtain rfl : u = Value.ref a := rx
 exact Qc I1 ea c n l fun u' s2 I2 ru => ⟨v, H1, I2, ru, q⟩
theorem VU (ha : PE X o ta) (hv : PE X value tv) (hs : swapsWith value (some (.Attribute o f pos')) pos.line X.env = pure false) : PS X (.Assign [.Attribute o f pos'] value pos) (Nu X.K ta tv f) := by
 intro pins s σ H D I h
 refine plainObj_wpAny_Assign_Attribute (thn (hv pins s σ H _ I h) fun u s1 ⟨y, H1, I1, ry, q⟩ => thn (ha pins s1 σ H1 _ I1 q) fun ov s2 ⟨x, H2, I2, rx, a, C, dx, fs, ex, ea, c, n, l, q2⟩ => ?_) hs
 subst ex
 obtain rfl : ov = Value.ref a := rx
 exact UF I2 ea c n l ry fun s3 I3 => ⟨σ, _, I3, q2⟩
theorem BK {pl : Sem Bool} {m : Str} {apos : Pos} {args : List Expr} {pins : List (Addr × Obj)} {s : Shared} {σ : St} {H : Hp} {Q : Value -> Shared -> Prop} {te : TE} (he : PE X e te) (I : Inv X pins σ H s)
  (h : te σ H fun x H1 => ∃ a C dx fs g, x = .ref a /\ H1 a = some (.ins C dx fs) /\ Cls X.K C /\ Meth X.K C m g /\ fs.lookup m = none ∧
   ∀ s1, Inv X pins σ H1 s1 -> wpAny (model X.prog X.w) X.A (callWith pos (.ref g) [.ref a] (backTo pos (starEach args X.env)) (backToKw pos (keywordEach [] X.env))) Q X.xe s1)
  (ht : eval (.Call (.Attribute e m apos) args [] pos) X.env = (do
   let ov ← eval e X.env
   standAt apos.atName
   let (f, first) ← holding [ov] (getMethod ov m pl)
   callWith pos f first (backTo pos (starEach args X.env)) (backToKw pos (keywordEach [] X.env)))) :
  wpAny (model X.prog X.w) X.A (eval (.Call (.Attribute e m apos) args [] pos) X.env) Q X.xe s := by
 refine PySem.W.methodCall_KW (pl := pl) (thn (he pins s σ H _ I h) fun u s1 ⟨x, H1, I1, rx, a, C, dx, fs, g, ex, ea, c, k, l, q⟩ => ?_) ht
 subst ex
 obtain rfl : u = Value.ref a := rx
 exact jT I1 ea c k l (q s1 I1)
end
section
variable {X : Cx} {pins : List (Addr × Obj)} {σ : St} {H : Hp} {s : Shared} {A : Around} {E : Value -> Shared -> Prop} {Q : Value -> Shared -> Prop} {c : Value} {b : Bool}
end
structure Room (k : Nat) (A : Around) : Prop where
 hd : A.handled = none
 dp : A.depth + 3 * k + 5 < recursionLimit
 un : A.units + 16 * k + 200 < cLine
theorem Room.mono {j k : Nat} {A : Around} (r : Room k A) (h : j <= k) : Room j A := ⟨r.hd, by have := r.dp; omega, by have := r.un; omega⟩
theorem Room.deeper {k : Nat} {A : Around} (r : Room (k + 1) A) (env : Env) : Room k (A.deeper env) :=
 ⟨r.hd, by have := r.dp; show A.depth + 1 + 3 * k + 5 < _; omega, by have := r.un; show A.units + 3 + 16 * k + 200 < _; omega⟩
theorem U4 {A : Around} {C : Addr} {us : List Value} {kw : List (Str × Value)} : (A.under (.builtin "type.__call__" ⟨.ref C :: us, kw⟩)).depth = A.depth + 1 := by
 first | rfl | simp [Around.under, Code.weight, Code.isCreation, Code.isGuard, Code.isCaller, Code.frames, Code.isFrame, guardIds]
theorem U3 {A : Around} {C : Addr} {us : List Value} {kw : List (Str × Value)} : (A.under (.builtin "type.__call__" ⟨.ref C :: us, kw⟩)).units = A.units + 1 := by
 first | rfl | simp [Around.under, Code.cUnits, Code.frames, Code.isFrame]
theorem Room.make {k : Nat} {A : Around} (r : Room (k + 1) A) (C : Addr) (us : List Value) (kw : List (Str × Value)) : Room k (A.under (.builtin "type.__call__" ⟨.ref C :: us, kw⟩)) :=
 ⟨r.hd, by have := r.dp; rw [U4]; omega, by have := r.un; rw [U3]; omega⟩
theorem Room.depth {k : Nat} {A : Around} (r : Room k A) : A.depth < recursionLimit := by have := r.dp; omega
def MK : TA := fun _ H Q => Q [] H
def FV (ta : TE) (tr : TA) : TA := fun σ H Q => ta σ H fun x H1 => tr σ H1 fun xs H2 => Q (x :: xs) H2
section
variable {X : Cx} {e : Expr} {es : List Expr} {te : TE} {t : TA} {pos : Pos}
theorem xp : PA X [] MK := fun _ _ _ _ H Q I h => Calls.spliced_nil ⟨[], H, I, .nil, h⟩
theorem z5 (ha : PE X e te) (hr : PA X es t) (hs : starEach (e :: es) X.env = (false, eval e X.env) :: starEach es X.env := by rfl) : PA X (e :: es) (FV te t) := by
 intro pos pins s σ H Q I h
 rw [hs]
 show wpAny _ _ (spliced ((false, eval e X.env) :: backTo pos (starEach es X.env))) _ _ s
 refine Calls.spliced_cons (thn (ha pins s σ H _ I h) fun u s1 ⟨x, H1, I1, r1, q1⟩ => ?_)
 exact thn (hr pos pins s1 σ H1 _ I1 q1) fun us s2 ⟨xs, H2, I2, r2, q2⟩ => ⟨x :: xs, H2, I2, .cons r1 r2, q2⟩
def Nc (t : TA) : TE := fun σ H Q => t σ H fun xs H1 => xs.length <= sizeLine /\ ∀ p, H1 p = none -> Q (.ref p) (upd H1 p (.tup xs))
def Nh (t : TA) : TE := fun σ H Q => t σ H fun xs H1 => xs.length <= sizeLine /\ ∀ p, H1 p = none -> Q (.ref p) (upd H1 p (.lst xs))
theorem C7 {x1} (h : PA X es t) : PE X (.Tuple es x1 pos) (Nc t) := by
 intro pins s σ H Q I hq
 refine wpAny_Tuple_spliced (thn (h pos pins s σ H _ I hq) fun us s1 ⟨xs, H1, I1, r, z, q⟩ => ⟨by rw [<- r.length]; exact z, ?_⟩)
 have hf : H1 s1.heap.objs.size = none := I1.hok.fresh (g0r _)
 refine ⟨.ref s1.heap.objs.size, upd H1 s1.heap.objs.size (.tup xs), I1.laid (t' := s1.toks) (fun b u e => Heap.get?_push_of_some _ e) (g0r _) ?_, rfl, q _ hf⟩
 exact ⟨z, us, r, ⟨_, Heap.get?_push_size _ rfl, rfl, _, rfl⟩⟩
theorem Ho (h : PA X es t) : PE X (.List es pos) (Nh t) := by
 intro pins s σ H Q I hq
 refine wpAny_List_spliced (thn (h pos pins s σ H _ I hq) fun us s1 ⟨xs, H1, I1, r, z, q⟩ => ⟨by rw [<- r.length]; exact z, ?_⟩)
 have hf : H1 s1.heap.objs.size = none := I1.hok.fresh (g0r _)
 refine ⟨.ref s1.heap.objs.size, upd H1 s1.heap.objs.size (.lst xs), I1.laid (t' := s1.toks) (fun b u e => Heap.get?_push_of_some _ e) (g0r _) ?_, rfl, q _ hf⟩
 exact ⟨z, us, 0, r, Heap.get?_push_size _ rfl⟩
end
abbrev Sp := List V -> Hp -> VK -> XK -> Prop
abbrev CXT := List Env -> Hp -> Shared -> XK -> Value -> Shared -> Prop
structure Env0 (P : Program) (w : World) (K : W.Frag) (mg : Str -> Option Value) (base : Heap) (A : Around) (outer : List Env) (s : Shared) (H : Hp) : Prop where
 frames : A.frames = some outer
 mod : Mod K mg base
 bs : ∀ b o, base.get? b = some o -> s.heap.get? b = some o /\ H b = none
 bsz : base.objs.size <= s.heap.objs.size
 funs : s.heap.FunFrames base outer
 frf : ∀ b ∈ frs outer, H b = none
 hok : HOk P w H s.heap
 bare : AllBare s.gens
def CE (outer : List Env) (P : Program) (w : World) (H : Hp) (s : Shared) (Q : VK) (u : Value) (s' : Shared) : Prop :=
 ∃ v H', s'.os = s.os /\ AllBare s'.gens /\ Un (frs outer) [] H H' s.heap s'.heap /\ HOk P w H' s'.heap /\ xU v u /\ Q v H'
def CR (CX : CXT) (outer : List Env) (P : Program) (w : World) (H : Hp) (s : Shared) (Q : VK) (E : XK) (r : Result) (s' : Shared) : Prop :=
 match r with
 | .ok (.ret u) => CE outer P w H s Q u s'
 | .ok _ => False
 | .error e => CX outer H s E e s'
structure FnOk (P : Program) (w : World) (K : W.Frag) (mg : Str -> Option Value) (base : Heap) (CX : CXT) (k : Nat) (f : Addr) (fd : FuncData) (ps : List Str) (sp : Sp) : Prop where
 len : ∀ vs H Q E, sp vs H Q E -> vs.length = ps.length
 run : ∀ (A : Around) (outer : List Env) (s : Shared) (H : Hp) (args : Args) (us : List Value) (vs : List V) (Q : VK) (E : XK), Room k A -> Env0 P w K mg base A outer s H -> BindsTo s fd args (ps.zip us) -> xf vs us -> sp vs H Q E →
  codeAny (model P w) A (.call (.ref f) args) (CR CX outer P w H s Q E) s
theorem FnOk.mono {P : Program} {w : World} {K : W.Frag} {mg : Str -> Option Value} {base : Heap} {CX : CXT} {j k : Nat} {f : Addr} {fd : FuncData} {ps : List Str} {sp : Sp} (F : FnOk P w K mg base CX j f fd ps sp) (h : j <= k) :
  FnOk P w K mg base CX k f fd ps sp := ⟨F.len, fun A outer s H args us vs Q E hr => F.run A outer s H args us vs Q E (hr.mono h)⟩
theorem Env0.make {P : Program} {w : World} {K : W.Frag} {mg : Str -> Option Value} {base : Heap} {A : Around} {outer : List Env} {s : Shared} {H : Hp} (e : Env0 P w K mg base A outer s H) (C : Addr) (us : List Value) (kw : List (Str × Value)) :
  Env0 P w K mg base (A.under (.builtin "type.__call__" ⟨.ref C :: us, kw⟩)) outer s H := ⟨by first | exact e.frames | (simpa [Around.under, Code.envs, Code.isFrame, pushEnvs] using e.frames), e.mod, e.bs, e.bsz, e.funs, e.frf, e.hok, e.bare⟩
section
variable {X : Cx} {pins : List (Addr × Obj)} {σ : St} {H : Hp} {s s' : Shared}
theorem Inv.env0 (I : Inv X pins σ H s) : Env0 X.prog X.w X.K X.mg X.base X.A X.stack s H :=
 ⟨I.ok.frames, I.ok.mod, I.bs, g2a I.ok.bsz I.sz, I.stack, I.stkFree, I.hok, I.bare⟩
theorem Inv.after {Q : VK} {u : Value} (I : Inv X pins σ H s) (h : CE X.stack X.prog X.w H s Q u s') : EP X pins σ Q u s' := by
 obtain ⟨v, H', os, bare, un, hok, r, q⟩ := h
 obtain ⟨hh, g, d, t, os'⟩ := s'
 obtain rfl : os' = s.os := os
 exact ⟨v, H', I.call (h' := hh) (g' := g) (d' := d) (t' := t) (ch := []) un hok bare (fun b z => absurd z (by simp)), r, q⟩
end
def FW (sp : Sp) (dvs : List V) (E : XK) (t : TA) : TE := fun σ H Q => t σ H fun vs H1 => sp (vs ++ dvs) H1 Q E
def CI (C : Addr) (m : Str) (sp : Sp) (dvs : List V) (E : XK) (ta : TE) (t : TA) : TE := fun σ H Q => ta σ H fun x H1 => ∃ a dx fs, x = .ref a /\ H1 a = some (.ins C dx fs) /\ fs.lookup m = none ∧
 t σ H1 fun vs H2 => sp (x :: (vs ++ dvs)) H2 Q E
def FQ (C : Addr) (sp : Sp) (dvs : List V) (E : XK) (t : TA) : TE := fun σ H Q => t σ H fun vs H1 => ∀ x dx, H1 x = none -> H1 dx = none -> dx ≠ x →
 sp (.ref x :: (vs ++ dvs)) (upd (upd H1 dx (.own x)) x (.ins C dx [])) (fun v H2 => v = .non /\ Q (.ref x) H2) E
def uO (K : W.Frag) (fd : FuncData) (ps : List Str) (ds : List Value) : Prop :=
 ∀ (s : Shared) (us : List Value), K.In s.heap -> (us ++ ds).length = ps.length -> BindsTo s fd ⟨us, []⟩ (ps.zip (us ++ ds))
theorem uO.all {K : W.Frag} {fd : FuncData} {ps : List Str} (h : ∀ us : List Value, us.length = ps.length -> bindArgs fd ⟨us, []⟩ = pure (ps.zip us)) : uO K fd ps [] := fun s us _ hl => by
 rw [g0t] at hl ⊢
 exact .of_eq (h us hl)
def kA (CX : CXT) (X : Cx) (E : XK) : Prop := ∀ (pins : List (Addr × Obj)) (σ : St) (H : Hp) (s : Shared) (e : Value) (s' : Shared), Inv X pins σ H s -> CX X.stack H s E e s' -> X.xe e s'
section
variable {X : Cx} {CX : CXT} {k : Nat} {f C : Addr} {fd : FuncData} {ps : List Str} {sp : Sp} {dvs : List V} {ds : List Value} {E : XK} {x m : Str} {p pos apos : Pos} {e o : Expr} {es : List Expr} {ta : TE} {t : TA}
theorem Q1 {pins : List (Addr × Obj)} {σ : St} {H : Hp} {s : Shared} {Q : VK} {us : List Value} {vs : List V} (F : FnOk X.prog X.w X.K X.mg X.base CX k f fd ps sp) (hr : Room k X.A) (hb : uO X.K fd ps ds) (hd : xf dvs ds) (hx : kA CX X E)
  (I : Inv X pins σ H s) (r : xf vs us) (h : sp (vs ++ dvs) H Q E) : wpAny (model X.prog X.w) X.A (call (.ref f) us) (EP X pins σ Q) X.xe s := by
 have r2 : xf (vs ++ dvs) (us ++ ds) := r.append hd
 have hl : (us ++ ds).length = ps.length := by rw [<- r2.length]; exact F.len _ _ _ _ h
 refine wpAny_call (codeAny_mono (F.run X.A X.stack s H ⟨us, []⟩ (us ++ ds) (vs ++ dvs) Q E hr I.env0 (hb s us I.kIn hl) r2 h) fun r s' hq => ?_)
 cases r with
 | error e => exact hx pins σ H s e s' I hq
 | ok fl =>
  cases fl with
  | ret u => exact I.after hq
  | next => exact False.elim hq
  | brk => exact False.elim hq
  | cont => exact False.elim hq
theorem Zk (F : FnOk X.prog X.w X.K X.mg X.base CX k f fd ps sp) (hr : Room k X.A) (hg : Gl X x) (hm : X.mg x = some (.ref f)) (hk : W.keepIn X.K (.ref f) = true) (hb : uO X.K fd ps ds) (hd : xf dvs ds) (hx : kA CX X E)
  (ha : PA X (e :: es) t) (hdb : (x == ("__debug__" : Str)) = false := by decide) (he : starEach (e :: es) X.env = (false, eval e X.env) :: starEach es X.env := by rfl) (hpl : (backTo pos (starEach es X.env)).any (·.1) = false := by rfl) :
  PE X (.Call (.Name x p) (e :: es) [] pos) (FW sp dvs E t) := by
 intro pins s σ H Q I h
 refine wpAny_Call_Name_kw (Vh I hg hm ?_ hdb)
 refine PySem.W.callWith_K (h₀ := X.base) I.ok.mod.kin hk (thn (ha pos pins s σ H _ I h) fun us s1 ⟨vs, H1, I1, r, q⟩ => ⟨I1.kIn, ?_⟩) he hpl
 exact Q1 F hr hb hd hx I1 r q
theorem Zj {pl : Sem Bool} (he : PE X o ta) (c : Cls X.K C) (hm : Meth X.K C m f) (F : FnOk X.prog X.w X.K X.mg X.base CX k f fd ps sp) (hr : Room k X.A) (hb : uO X.K fd ps ds) (hd : xf dvs ds) (hx : kA CX X E) (ha : PA X (e :: es) t)
  (hst : starEach (e :: es) X.env = (false, eval e X.env) :: starEach es X.env := by rfl) (hpl : (backTo pos (starEach es X.env)).any (·.1) = false := by rfl)
  (ht : eval (.Call (.Attribute o m apos) (e :: es) [] pos) X.env = (do
   let ov ← eval o X.env
   standAt apos.atName
   let (f, first) ← holding [ov] (getMethod ov m pl)
   callWith pos f first (backTo pos (starEach (e :: es) X.env)) (backToKw pos (keywordEach [] X.env))) := by rfl) :
  PE X (.Call (.Attribute o m apos) (e :: es) [] pos) (CI C m sp dvs E ta t) := by
 intro pins s σ H Q I h
 refine PySem.W.methodCall_KW (pl := pl) (thn (he pins s σ H _ I h) fun u s1 ⟨x, H1, I1, rx, a, dx, fs, ex, ea, l, q⟩ => ?_) ht
 subst ex
 obtain rfl : u = Value.ref a := rx
 refine jT I1 ea c hm l ?_
 refine PySem.W.callWith_K (first := [.ref a]) (h₀ := X.base) I.ok.mod.kin hm.kp (thn (ha pos pins s1 σ H1 _ I1 q) fun us s2 ⟨vs, H2, I2, r, q2⟩ => ⟨I2.kIn, ?_⟩) hst hpl
 exact Q1 (us := .ref a :: us) (vs := .ref a :: vs) F hr hb hd hx I2 (.cons rfl r) q2
theorem K6 {pl : Sem Bool} (he : PE X o ta) (c : Cls X.K C) (hm : Meth X.K C m f) (F : FnOk X.prog X.w X.K X.mg X.base CX k f fd ps sp) (hr : Room k X.A) (hb : uO X.K fd ps ds) (hd : xf dvs ds) (hx : kA CX X E)
  (ht : eval (.Call (.Attribute o m apos) [] [] pos) X.env = (do
   let ov ← eval o X.env
   standAt apos.atName
   let (f, first) ← holding [ov] (getMethod ov m pl)
   callWith pos f first (backTo pos (starEach [] X.env)) (backToKw pos (keywordEach [] X.env))) := by rfl) :
  PE X (.Call (.Attribute o m apos) [] [] pos) (CI C m sp dvs E ta MK) := by
 intro pins s σ H Q I h
 refine PySem.W.methodCall_KW (pl := pl) (thn (he pins s σ H _ I h) fun u s1 ⟨x, H1, I1, rx, a, dx, fs, ex, ea, l, q⟩ => ?_) ht
 subst ex
 obtain rfl : u = Value.ref a := rx
 refine jT I1 ea c hm l ?_
 exact PySem.W.callWith_K0 (first := [.ref a]) I1.kIn hm.kp (Q1 (us := [.ref a]) (vs := [.ref a]) F hr hb hd hx I1 (.cons rfl .nil) q)
structure Mk (K : W.Frag) (C f : Addr) : Prop where
 makes : PySem.W.makesIn K C = true
 init : PySem.W.findIn K (.ref C) "__init__" = some (some (.ref f))
 fn : PySem.W.isFn K (.ref f) = true
 kp : W.keepIn K (.ref C) = true
theorem KZ {pins : List (Addr × Obj)} {σ : St} {H : Hp} {s : Shared} {Q : VK} {us : List Value} {vs : List V} (M : Mk X.K C f) (F : FnOk X.prog X.w X.K X.mg X.base CX k f fd ps sp) (hr : Room (k + 1) X.A) (hb : uO X.K fd ps ds) (hd : xf dvs ds)
  (hx : kA CX X E) (I : Inv X pins σ H s) (r : xf vs us)
  (h : ∀ x dx, H x = none -> H dx = none -> dx ≠ x -> sp (.ref x :: (vs ++ dvs)) (upd (upd H dx (.own x)) x (.ins C dx [])) (fun v H2 => v = .non /\ Q (.ref x) H2) E) :
  wpAny (model X.prog X.w) X.A (call (.ref C) us) (EP X pins σ Q) X.xe s := by
 have hq := h (s.heap.objs.size + 1) s.heap.objs.size (I.hok.fresh (Nat.le_succ _)) (I.hok.fresh (g0r _)) (g1g (g2q _))
 have I2 := Inv.made (C := C) I
 have r2 : xf (V.ref (s.heap.objs.size + 1) :: (vs ++ dvs)) (Value.ref (s.heap.objs.size + 1) :: (us ++ ds)) := .cons rfl (r.append hd)
 have hl : (Value.ref (s.heap.objs.size + 1) :: us ++ ds).length = ps.length := by
  have e := r2.length
  rw [F.len _ _ _ _ hq] at e
  exact e.symm
 refine wpAny_call (Gu (f := f) I.kIn M.makes M.init (beq_iff_eq.mp M.fn) (codeAny_mono (F.run _ X.stack _ _ ⟨Value.ref (s.heap.objs.size + 1) :: us, []⟩ (Value.ref (s.heap.objs.size + 1) :: (us ++ ds)) _ _ E (hr.make C us [])
  (I2.env0.make C us []) (hb _ (Value.ref (s.heap.objs.size + 1) :: us) I2.kIn hl) r2 hq) fun r s' hq' => ?_))
 cases r with
 | error e => exact hx pins σ _ _ e s' I2 hq'
 | ok fl =>
  cases fl with
  | ret u =>
   obtain ⟨v, H', I3, rv, ev, q3⟩ := I2.after hq'
   subst ev
   exact ⟨rv, ⟨V.ref (s.heap.objs.size + 1), H', I3, rfl, q3⟩⟩
  | next => exact False.elim hq'
  | brk => exact False.elim hq'
  | cont => exact False.elim hq'
theorem Bj (M : Mk X.K C f) (F : FnOk X.prog X.w X.K X.mg X.base CX k f fd ps sp) (hr : Room (k + 1) X.A) (hg : Gl X x) (hm : X.mg x = some (.ref C)) (hb : uO X.K fd ps ds) (hd : xf dvs ds) (hx : kA CX X E)
  (ha : PA X (e :: es) t) (hdb : (x == ("__debug__" : Str)) = false := by decide) (he : starEach (e :: es) X.env = (false, eval e X.env) :: starEach es X.env := by rfl) (hpl : (backTo pos (starEach es X.env)).any (·.1) = false := by rfl) :
  PE X (.Call (.Name x p) (e :: es) [] pos) (FQ C sp dvs E t) := by
 intro pins s σ H Q I h
 refine wpAny_Call_Name_kw (Vh I hg hm ?_ hdb)
 refine PySem.W.callWith_K (h₀ := X.base) I.ok.mod.kin M.kp (thn (ha pos pins s σ H _ I h) fun us s1 ⟨vs, H1, I1, r, q⟩ => ⟨I1.kIn, ?_⟩) he hpl
 exact KZ M F hr hb hd hx I1 r q
end
section
variable {X : Cx} {CX : CXT} {k : Nat} {f C : Addr} {fd : FuncData} {ps ks : List Str} {sp : Sp} {E : XK} {x m : Str} {p pos apos kpos : Pos} {e o : Expr} {es : List Expr} {kws : List Keyword} {te ta : TE} {t tk : TA} {nm : Option Str}
variable {g : List Value -> List Value -> List Value} {gV : List V -> List V -> List V}
end
structure FnScope (N P : List Str) (sc : Scope) : Prop where
 kind : sc.kind = .function
 co : sc.isCoroutine = false
 gen : sc.isGenerator = false
 nd : N.Nodup
 pre : N.take P.length = P
 par : ∀ x ∈ P, sc.names.lookup x = some .local \/ sc.names.lookup x = some .cell
 nofree : ∀ y ∈ sc.names, y.2 ≠ .free
theorem Wu {kindOf : Str -> Option NameKind} {x : Str} : ∀ {binds : List (Str × Value)} {m : Str -> Option Value}, (∀ v, (x, v) ∉ binds) -> bindL kindOf binds m x = m x
 | [], _, _ => rfl
 | (n, v) :: r, m, h => by
  unfold bindL
  rw [Wu fun w hw => h w (g0m _ hw)]
  split
  ·have : x ≠ n := by rintro rfl; exact h v g0s
   simp [this]
  ·rfl
theorem Ww {kindOf : Str -> Option NameKind} {x : Str} : ∀ {binds : List (Str × Value)} {m : Str -> Option Value}, (∀ v, (x, v) ∉ binds) -> bindC kindOf binds m x = m x
 | [], _, _ => rfl
 | (n, v) :: r, m, h => by
  unfold bindC
  rw [Ww fun w hw => h w (g0m _ hw)]
  split
  ·rfl
  ·have : x ≠ n := by rintro rfl; exact h v g0s
   simp [this]
theorem Wv {kindOf : Str -> Option NameKind} {x : Str} {v : Value} : ∀ {P : List Str} {vs : List Value} {i : Nat} {m : Str -> Option Value}, P.Nodup -> P[i]? = some x -> vs[i]? = some v -> kindOf x = some .local →
  bindL kindOf (P.zip vs) m x = some v
 | [], _, _, _, _, h, _, _ => by simp at h
 | _ :: _, [], _, _, _, _, h, _ => by simp at h
 | p :: P, w :: vs, 0, m, nd, h1, h2, hk => by
  simp at h1 h2; subst h1; subst h2
  show bindL kindOf ((p, w) :: P.zip vs) m p = _
  unfold bindL
  rw [Wu fun v hv => (List.nodup_cons.mp nd).1 (List.of_mem_zip hv).1, if_pos hk]
  simp
 | p :: P, w :: vs, i + 1, m, nd, h1, h2, hk => by
  show bindL kindOf ((p, w) :: P.zip vs) m x = _
  unfold bindL
  exact Wv (i := i) (List.nodup_cons.mp nd).2 (by simpa using h1) (by simpa using h2) hk
theorem Wx {kindOf : Str -> Option NameKind} {x : Str} {v : Value} : ∀ {P : List Str} {vs : List Value} {i : Nat} {m : Str -> Option Value}, P.Nodup -> P[i]? = some x -> vs[i]? = some v -> kindOf x ≠ some .local →
  bindC kindOf (P.zip vs) m x = some v
 | [], _, _, _, _, h, _, _ => by simp at h
 | _ :: _, [], _, _, _, _, h, _ => by simp at h
 | p :: P, w :: vs, 0, m, nd, h1, h2, hk => by
  simp at h1 h2; subst h1; subst h2
  show bindC kindOf ((p, w) :: P.zip vs) m p = _
  unfold bindC
  rw [Ww fun v hv => (List.nodup_cons.mp nd).1 (List.of_mem_zip hv).1, if_neg hk]
  simp
 | p :: P, w :: vs, i + 1, m, nd, h1, h2, hk => by
  show bindC kindOf ((p, w) :: P.zip vs) m x = _
  unfold bindC
  exact Wx (i := i) (List.nodup_cons.mp nd).2 (by simpa using h1) (by simpa using h2) hk
def start (N : List Str) (vs : List V) : St := vs.map some ++ g0g (N.length - vs.length) none
def GY (CX : CXT) (P : Program) (w : World) (K : W.Frag) (mg : Str -> Option Value) (base : Heap) (N : List Str) (qual : Str) (scope : Scope) (f : Addr) (cd : Value) (A : Around) (outer : List Env) (s : Shared) (H : Hp) (E : XK) : Cx where
 prog := P
 w := w
 K := K
 mg := mg
 base := base
 A := A.deeper (envOfC qual scope s.heap.objs.size f cd)
 N := N
 s₀ := s
 H₀ := H
 env := envOfC qual scope s.heap.objs.size f cd
 outer := outer
 stack := envOfC qual scope s.heap.objs.size f cd :: outer
 ex := []
 calm := true
 fn := fun _ => true
 pn := []
 xe := fun e s' => wpAny (model P w) (A.deeper (envOfC qual scope s.heap.objs.size f cd)) (leaving (envOfC qual scope s.heap.objs.size f cd) e) (fun _ s'' => CX outer H s E e s'') (fun e' s'' => CX outer H s E e' s'') s'
theorem Uo {sc : Scope} {n : Nat} {x : Str} (h : sc.names.lookup x = some .cell) : ∃ c, (cellsFrom n sc.names []).lookup x = some c := by
 have q := PySem.W.cellsFrom_some sc.names n [] (.inl h)
 exact Option.isSome_iff_exists.mp q
theorem JT {CX : CXT} {P : Program} {w : World} {K : W.Frag} {mg : Str -> Option Value} {base : Heap} {N ps : List Str} {qual : Str} {scope : Scope} {f : Addr} {cd : Value} {A : Around} {outer : List Env} {s s1 : Shared} {H : Hp} {E : XK} {us : List Value} {vs : List V}
  (S : FnScope N ps scope) (hd : A.handled = none) (e0 : Env0 P w K mg base A outer s H) (hl : vs.length = ps.length) (r : xf vs us)
  (x : InCallC s s.heap.objs.size (bindL (envOfC qual scope s.heap.objs.size f cd).kindOf (ps.zip us) fun _ => none) (cellsFrom (s.heap.objs.size + 1) scope.names []) (bindC (envOfC qual scope s.heap.objs.size f cd).kindOf (ps.zip us) fun _ => none) s1) :
  Inv (GY CX P w K mg base N qual scope f cd A outer s H E) [] (start N vs) H s1 := by
 have hpl : ps.length <= N.length := by have := congrArg g3c S.pre; rw [g1i] at this; omega
 obtain ⟨h1, tk, rfl, hk⟩ := x.done
 have noA : ∀ b : Addr, b ∉ (GY CX P w K mg base N qual scope f cd A outer s H E).ex := fun b z => absurd (show b ∈ ([] : List Addr) from z) (by simp)
 refine ⟨⟨e0.mod, S.kind, rfl, rfl, g0r _, fun y z c h1 h2 => ?_, fun y hy => ?_, fun y c _ h => ?_, fun _ => hd, Around.frames_deeper e0.frames, .inr ⟨rfl, rfl⟩, fun b z => absurd z (noA b), e0.bs, e0.bsz, fun b _ _ => noA b, fun b z => absurd z (noA b), e0.funs, e0.frf⟩,
  rfl, e0.bare, Un.kept hk, ⟨_, x.toInCall.ns, fun i y v h1 h2 h3 => ?_⟩, fun y c h => ⟨_, x.cell y c h⟩, e0.hok.fresh (g0r _), fun y c h => ?_, fun p hp => absurd (show p ∈ ([] : List (Addr × Obj)) from hp) (by simp), e0.hok.kept hk, ?_⟩
 ·exact name_of_addr x.apart (PySem.mem_of_lookup h1) (PySem.mem_of_lookup h2)
 ·have hy : scope.names.lookup y = some .cell \/ scope.names.lookup y = some .free := hy
  rcases hy with hy | hy
  ·exact Uo hy
  ·exact absurd rfl (S.nofree _ (PySem.mem_of_lookup hy))
 ·exact g2t (x.above y c (PySem.mem_of_lookup h))
 ·have hi : i < vs.length := by
   unfold start at h2
   by_cases hi : i < vs.length
   ·exact hi
   ·rw [g1a (by simpa using hi)] at h2
    rw [g1x] at h2
    split at h2 <;> cases h2
  have ha : vs[i]? = some v := by
   unfold start at h2
   rw [g1h (by simpa using hi), g0w] at h2
   cases e : vs[i]? with
   | none => rw [e] at h2; cases h2
   | some a => rw [e] at h2; cases h2; rfl
  obtain ⟨u, hu, rv⟩ := r.get ha
  have hp : ps[i]? = some y := by
   rw [<- S.pre, List.getElem?_take_of_lt (by omega)]; exact h1
  have ndP : ps.Nodup := by rw [<- S.pre]; exact S.nd.sublist (List.take_sublist _ _)
  refine ⟨u, rv, ?_⟩
  rcases S.par y (g2h hp) with k | k
  ·exact .inl ⟨k, Wv ndP hp hu k⟩
  ·obtain ⟨c, e⟩ := Uo (n := s.heap.objs.size + 1) k
   refine .inr ⟨.inl k, c, e, ?_⟩
   have q := x.cell y c e
   rw [Wx ndP hp hu (by show scope.names.lookup y ≠ _; rw [k]; decide)] at q
   exact q
 ·exact e0.hok.fresh (g2t (x.above y c (PySem.mem_of_lookup h)))
 ·unfold start
  show _ = N.length
  rw [g0i, g1j, List.length_replicate]
  omega
theorem Mx {CX : CXT} {P : Program} {w : World} {K : W.Frag} {mg : Str -> Option Value} {base : Heap} {k : Nat} {f : Addr} {name qual : Str} {params : Arguments} {body : List Stmt} {scope : Scope} {dV kV doc pm cdv ct oc : Value} {an od : Option Addr}
  {osl : Array (Option Value)} {N ps : List Str} {sp : Sp} (lk : K.lookup f = some ⟨oc, od, .func (W.fnOf name qual params body scope dV kV doc pm an cdv ct), osl⟩) (hcd : W.codeIn K cdv qual = true) (S : FnScope N ps scope)
  (len : ∀ vs H Q E, sp vs H Q E -> vs.length = ps.length)
  (JW : ∀ (A : Around) (outer : List Env) (s : Shared) (H : Hp) (vs : List V) (Q : VK) (E : XK), Room k (A.deeper (envOfC qual scope s.heap.objs.size f cdv)) -> sp vs H Q E →
   ∃ t, PSs (GY CX P w K mg base N qual scope f cdv A outer s H E) body t /\ t { nx := fun _ H' => Q .non H', rt := Q } (start N vs) H) :
  FnOk P w K mg base CX (k + 1) f (W.fnOf name qual params body scope dV kV doc pm an cdv ct) ps sp := by
 refine ⟨len, fun A outer s H args us vs Q E hr e0 hb r hsp => ?_⟩
 have hl := len _ _ _ _ hsp
 have KX : K.In s.heap := e0.mod.kin.keeps fun b o e => (e0.bs b o e).1
 have lim : s.heap.NoLimit := e0.mod.nolimit.keeps fun b o e => (e0.bs b o e).1
 have hkind : ∀ y ∈ ps.zip us, scope.names.lookup y.1 = some .local \/ (scope.names.lookup y.1 = some .cell /\ ((cellsFrom (s.heap.objs.size + 1) scope.names []).lookup y.1).isSome = true) := fun ⟨n, v⟩ hy => by
  rcases S.par n (List.of_mem_zip hy).1 with q | q
  ·exact .inl q
  ·exact .inr ⟨q, PySem.W.cellsFrom_some _ _ _ (.inl q)⟩
 refine codeAny_call_function hr.depth (KX _ _ lk) rfl S.co S.gen rfl (PySem.W.codeRec_of KX hcd) (hb _ _ _ _ ?_)
 refine wpAny_newFunctionEnv_cells S.kind hkind fun env he s1 x => ?_
 subst he
 refine ⟨lim.keeps x.toInCall.keep, codeAny_func ?_⟩
 obtain ⟨t, ht, hq⟩ := JW A outer s H vs Q E (hr.deeper _) hsp
 have I : Inv (GY CX P w K mg base N qual scope f cdv A outer s H E) [] (start N vs) H s1 := JT S hr.hd e0 hl r x
 refine wpAny_mono (ht [] s1 (start N vs) H _ I hq) (fun fl s' hs => ?_) fun e s' hs => hs
 have fin : ∀ {σ' : St} {H' : Hp} {v : V} {u : Value}, Inv (GY CX P w K mg base N qual scope f cdv A outer s H E) [] σ' H' s' -> xU v u -> Q v H' -> CE outer P w H s Q u s' :=
  fun {σ' H' v u} J rv q => ⟨v, H', J.os, J.bare, J.base, J.hok, rv, q⟩
 cases fl with
 | ret u =>
  obtain ⟨v, σ', H', J, rv, q⟩ := hs
  exact fin J rv q
 | next =>
  obtain ⟨σ', H', J, q⟩ := hs
  exact fin (v := V.non) (u := Value.none) J rfl q
 | brk =>
  obtain ⟨_, _, _, q⟩ := hs
  exact False.elim q
 | cont =>
  obtain ⟨_, _, _, q⟩ := hs
  exact False.elim q
section
variable {X : Cx} {x : Str} {p pos : Pos} {e : Expr} {es : List Expr} {t : TA} {id T : String} {r : List V -> Hp -> VK -> Prop}
def tCB (r : List V -> Hp -> VK -> Prop) (t : TA) : TE := fun σ H Q => t σ H fun vs H1 => r vs H1 Q
theorem YT (hc : uN X (.builtin id) r) (hg : Gl X x) (hm : X.mg x = none) (hv : bootBuiltins x = some (.builtin id)) (ha : PA X (e :: es) t) (hn : x ≠ "__name__" := by decide) (hdb : (x == ("__debug__" : Str)) = false := by decide)
  (he : starEach (e :: es) X.env = (false, eval e X.env) :: starEach es X.env := by rfl) (hpl : (backTo pos (starEach es X.env)).any (·.1) = false := by rfl) : PE X (.Call (.Name x p) (e :: es) [] pos) (tCB r t) := by
 intro pins s σ H Q I h
 refine wpAny_Call_Name_kw (qc I hg hm hv ?_ hn hdb)
 exact PyProof.Rows.callWith_builtin1 (thn (ha pos pins s σ H _ I h) fun us s1 ⟨vs, H1, I1, r1, q1⟩ => hc pins s1 σ H1 vs us Q I1 r1 q1) he hpl
theorem XM (hc : uN X (.type T) r) (hg : Gl X x) (hm : X.mg x = none) (hv : bootBuiltins x = some (.type T)) (ha : PA X (e :: es) t) (hn : x ≠ "__name__" := by decide) (hdb : (x == ("__debug__" : Str)) = false := by decide)
  (he : starEach (e :: es) X.env = (false, eval e X.env) :: starEach es X.env := by rfl) (hpl : (backTo pos (starEach es X.env)).any (·.1) = false := by rfl) : PE X (.Call (.Name x p) (e :: es) [] pos) (tCB r t) := by
 intro pins s σ H Q I h
 refine wpAny_Call_Name_kw (qc I hg hm hv ?_ hn hdb)
 exact PyProof.Rows.callWith_type1 (thn (ha pos pins s σ H _ I h) fun us s1 ⟨vs, H1, I1, r1, q1⟩ => hc pins s1 σ H1 vs us Q I1 r1 q1) he hpl
end
end L2
namespace HT
open PySem PyProof.Rows
section
open PySem.SeqAt
open PySem.AutoSeq1 (wpAny_loadPart')
open PySem.MeetsSeq PySem.MeetsSeq2 PySem.MeetsSeq3
end
section
variable {prog : Program} {w : World} {A : Around} {E : Value -> Shared -> Prop} {s : Shared}
theorem cat_tup {t b : Addr} {vs ws : List Value} {Q : Value -> Shared -> Prop} (ht : IsTup s.heap t vs.toArray) (hb : IsTup s.heap b ws.toArray) (hv : vs ≠ [])
  (h1 : ws = [] -> Q (.ref t) s) (h2 : ws ≠ [] -> Q (.ref s.heap.objs.size) { s with heap := s.heap.push { cls := .type "tuple", data := .seq (vs ++ ws).toArray } })
  (hsz : vs.length + ws.length <= sizeLine) : wpAny (model prog w) A (binaryOp .Add (.ref t) (.ref b)) Q E s := by
 obtain ⟨⟨cls, dd, data, sl⟩, ho, hc, n, hd⟩ := id ht
 obtain ⟨⟨cls2, dd2, data2, sl2⟩, ho2, hc2, n2, hd2⟩ := id hb
 simp only at hc hd hc2 hd2
 subst hc hd hc2 hd2
 have e : vs.toArray ++ ws.toArray = (vs ++ ws).toArray := by simp
 by_cases hw : ws = []
 ·exact concat_meets ⟨_, ho, rfl⟩ ⟨_, ho2, rfl⟩ noFill_tuple_add seq_tuple_add PySem.F.slot_tuple_add PySem.F.entry_tuple_add (PySem.F.args_tuple_add_2 _ _)
   (tuple_addW1 t b vs.toArray ws.toArray n n2 dd dd2 sl sl2 (by simpa using hv) (by simp [hw])) ⟨ho, ho2, h1 hw⟩
 ·refine concat_meets ⟨_, ho, rfl⟩ ⟨_, ho2, rfl⟩ noFill_tuple_add seq_tuple_add PySem.F.slot_tuple_add PySem.F.entry_tuple_add (PySem.F.args_tuple_add_2 _ _)
   (tuple_addW2 t b vs.toArray ws.toArray n n2 dd dd2 sl sl2 (by simpa using hv) (by simpa using hw) (by rw [g0u, g0u]; exact hsz)) ⟨ho, ho2, ?_⟩
  rw [e]
  exact h2 hw
def sIx (n d : Nat) : Option Int -> Nat
 | none => d
 | some v => if v < 0 then (v + (n : Int)).toNat else min v.toNat n
theorem sIx_none (n d : Nat) : sIx n d none = d := rfl
theorem sIx_nat (n d k : Nat) : sIx n d (some (k : Int)) = min k n := by
 show (if (k : Int) < 0 then ((k : Int) + (n : Int)).toNat else min (k : Int).toNat n) = min k n
 rw [if_neg (by omega), Int.toNat_natCast]
theorem CY (n d : Nat) (hd : d <= n) (o : Option Int) : sIx n d o <= n := by
 cases o with
 | none => exact hd
 | some v =>
  show (if v < 0 then (v + (n : Int)).toNat else min v.toNat n) <= n
  by_cases hv : v < 0
  ·rw [if_pos hv]; omega
  ·rw [if_neg hv]; exact Nat.min_le_right _ _
theorem Kn (v : Int) (n d : Nat) : (if v < 0 then max (v + (n : Int)) 0 else min v (n : Int)) = ((sIx n d (some v) : Nat) : Int) := by
 show (if v < 0 then max (v + (n : Int)) 0 else min v (n : Int)) = (((if v < 0 then (v + (n : Int)).toNat else min v.toNat n) : Nat) : Int)
 by_cases hv : v < 0
 ·simp only [if_pos hv]; omega
 ·simp only [if_neg hv]; omega
theorem Qm (lo hi : Option Int) (n : Nat) : Builtin.Slice.sliceAdjust lo hi 1 (n : Int) = (((sIx n 0 lo : Nat) : Int), ((sIx n n hi : Nat) : Int)) := by
 have h1 : ¬ ((1 : Int) < 0) := by omega
 unfold Builtin.Slice.sliceAdjust
 simp only [h1, if_false]
 refine Prod.ext ?_ ?_
 ·cases lo with
  | none => rfl
  | some v => exact Kn v n 0
 ·cases hi with
  | none => rfl
  | some v => exact Kn v n n
theorem UO (i j : Nat) : Builtin.Slice.slicePlaces (i : Int) (j : Int) 1 = j - i := by
 unfold Builtin.Slice.slicePlaces
 have h1 : (1 : Int) > 0 := by omega
 simp only [h1, if_true, Int.ediv_one]
 split <;> omega
theorem Z4 {v : Value} {o : Option Int} {Q : Option Int -> Shared -> Prop} (p : IsPart v o) (h : Q o s) : wpAny (model prog w) A (Builtin.Slice.slicePartIndex v) Q E s := by
 cases p with
 | none => exact slicePart_none h
 | int i t => exact slicePart_int h
theorem sliceApplied_gen {sl : Addr} {vl vu : Value} {lo hi : Option Int} {n : Nat} {Q : Int × Int × Nat -> Shared -> Prop} (hs : s.heap.IsSliceOf sl vl vu .none) (pl : IsPart vl lo) (pu : IsPart vu hi)
  (h : Q (((sIx n 0 lo : Nat) : Int), 1, sIx n n hi - sIx n 0 lo) s) : wpAny (model prog w) A (Builtin.Slice.sliceApplied (.ref sl) (pure (n : Int))) Q E s := by
 obtain ⟨os, hos, hcs, hds⟩ := id hs
 unfold Builtin.Slice.sliceApplied Builtin.Slice.sliceFields
 refine wpAny_bind (wpAny_bind (wpAny_field hos hds (x := vl) rfl (wpAny_bind (wpAny_field hos hds (x := vu) rfl (wpAny_bind (wpAny_field hos hds (x := .none) rfl (wpAny_pure ?_)))))))
 refine wpAny_bind (slicePart_none ?_)
 show wpAny _ _ (if ((1 : Int) == 0) = true then _ else _) _ _ s
 rw [if_neg (by decide)]
 refine wpAny_bind (Z4 pl (wpAny_bind (Z4 pu (wpAny_bind (wpAny_pure ?_)))))
 show wpAny _ _ (match Builtin.Slice.sliceAdjust lo hi 1 (n : Int) with | (lo, hi) => pure (lo, (1 : Int), Builtin.Slice.slicePlaces lo hi 1)) _ _ s
 rw [Qm lo hi n]
 show wpAny _ _ (pure (((sIx n 0 lo : Nat) : Int), (1 : Int), Builtin.Slice.slicePlaces ((sIx n 0 lo : Nat) : Int) ((sIx n n hi : Nat) : Int) 1)) _ _ s
 rw [UO]
 exact wpAny_pure h
theorem K5 (xs : Array Value) (i k : Nat) : ((g1e k).filterMap fun (m : Nat) => xs[((i : Int) + (m : Int) * 1).toNat]?).toArray = ((xs.toList.drop i).take k).toArray := by
 have e : (fun (m : Nat) => xs[((i : Int) + (m : Int) * 1).toNat]?) = fun m => xs[i + m]? := by
  funext m
  have : ((i : Int) + (m : Int) * 1).toNat = i + m := by omega
  rw [this]
 rw [e]
 have := pick_run xs i k
 rw [List.filterMap_map] at this
 have e2 : ((fun x => xs[x]?) ∘ fun x => i + x) = fun m => xs[i + m]? := rfl
 rw [e2] at this
 rw [this]
theorem getItem_tuple_cut {t sl : Addr} {items : Array Value} {vl vu : Value} {lo hi : Option Int} {Q : Value -> Shared -> Prop} (ht : IsTup s.heap t items) (hs : s.heap.IsSliceOf sl vl vu .none) (pl : IsPart vl lo) (pu : IsPart vu hi)
  (hw : ¬ (sIx items.size 0 lo = 0 /\ sIx items.size items.size hi = items.size))
  (h : Q (.ref s.heap.objs.size) { s with heap := s.heap.push { cls := .type "tuple", data := .seq ((items.toList.drop (sIx items.size 0 lo)).take (sIx items.size items.size hi - sIx items.size 0 lo)).toArray } })
  (hsz : items.size <= sizeLine) : wpAny (model prog w) A (getItem (.ref t) (.ref sl)) Q E s := by
 have htake : sizeOk (.seq ((items.toList.drop (sIx items.size 0 lo)).take (sIx items.size items.size hi - sIx items.size 0 lo)).toArray) := by
  show ((items.toList.drop (sIx items.size 0 lo)).take (sIx items.size items.size hi - sIx items.size 0 lo)).toArray.size <= sizeLine
  rw [g0u, g1i, g1v, Array.length_toList]
  omega
 have hj : sIx items.size items.size hi <= items.size := CY _ _ (g0r _) hi
 obtain ⟨os, hos, hcs, hds⟩ := id hs
 have hTs : s.TypeIs (.ref sl) "slice" := ⟨os, hos, hcs⟩
 unfold getItem
 try with_reducible refine wpAny_holding ?_
 first | refine wpAny_bind (wpAny_pure ?_) | skip
 refine wpAny_bind (wpAny_sequenceKey ht.typeIs (by decide) ?_)
 refine wpAny_bind (wpAny_callSpecial?_slot (name := Str.ofString "__getitem__") ht.typeIs PyProof.Rows.slot_tuple_getitem
  (wpAny_call_entry PyProof.Rows.slot_tuple_getitem ht.typeIs entry_tuple_getitem ?_ (args_tuple_getitem _ _)))
 show wpAny _ _ (Builtin.Tuple.tupleItemsOf (.ref t) >>= _) _ _ s
 refine wpAny_bind (tupleItemsOf_ ht ?_)
 refine wpAny_bind (wpAny_typeOf hTs ?_)
 rw [if_pos (by decide)]
 refine wpAny_bind (sliceApplied_gen hs pl pu ?_)
 have hno : ¬ ((((sIx items.size 0 lo : Nat) : Int) == 0 && (1 : Int) == 1 && (sIx items.size items.size hi - sIx items.size 0 lo) == items.size) = true) := by
  intro q
  rw [g2y, g2y] at q
  have q1 : ((sIx items.size 0 lo : Nat) : Int) = 0 := eq_of_beq q.1.1
  have q2 : sIx items.size items.size hi - sIx items.size 0 lo = items.size := eq_of_beq q.2
  exact hw ⟨by omega, by omega⟩
 show wpAny _ _ (if (((sIx items.size 0 lo : Nat) : Int) == 0 && (1 : Int) == 1 && (sIx items.size items.size hi - sIx items.size 0 lo) == items.size) = true then _ else _) _ _ s
 rw [if_neg hno, K5]
 first
  | exact wpAny_bind (m := Builtin.Tuple.tupleExact _) (wpAny_newObj_type (wpAny_pure ⟨_, rfl, wpAny_pure h⟩) htake)
  | exact wpAny_bind (m := Builtin.Tuple.tupleExact _) (wpAny_newObj_type (wpAny_bind (wpAny_pure (wpAny_pure ⟨_, rfl, wpAny_pure h⟩))) htake)
  | exact wpAny_bind (wpAny_bind (m := Builtin.Tuple.tupleExact _) (wpAny_newObj_type (wpAny_pure (wpAny_pure ⟨_, rfl, wpAny_pure h⟩)) htake))
  | exact wpAny_bind (wpAny_bind (m := Builtin.Tuple.tupleExact _) (wpAny_newObj_type (wpAny_pure ⟨_, rfl, wpAny_pure h⟩) htake))
end
end HT
namespace L2
open PySem PySem.Spec PyProof.Rows
abbrev TO := St -> Hp -> (Option Int -> Hp -> Prop) -> Prop
def PO (X : Cx) (e : Option Expr) (t : TO) : Prop :=
 ∀ (pins : List (Addr × Obj)) (s : Shared) (σ : St) (H : Hp) (Q : Option Int -> Hp -> Prop), Inv X pins σ H s -> t σ H Q →
  wpAny (model X.prog X.w) X.A (evalPart e X.env) (fun u s' => ∃ o H', Inv X pins σ H' s' /\ IsPart u o /\ Q o H') X.xe s
def QG : TO := fun _ H Q => Q none H
def FM (t : TE) : TO := fun σ H Q => t σ H fun x H1 => ∃ i, x = .int i /\ Q (some i) H1
section
variable {X : Cx} {e : Expr} {te : TE} {lo hi : Option Expr} {tl th : TO} {pos p2 : Pos}
theorem Ja : PO X none QG := by
 intro pins s σ H Q I h
 rw [evalPart_none]
 exact wpAny_pure ⟨none, H, I, .none, h⟩
theorem Q9 (h : PE X e te) : PO X (some e) (FM te) := by
 intro pins s σ H Q I hw
 rw [evalPart_some]
 refine thn (h pins s σ H _ I hw) fun u s1 ⟨x, H1, I1, r1, q1⟩ => ?_
 obtain ⟨i, rfl, q⟩ := q1
 obtain ⟨t, rfl⟩ := r1
 exact ⟨some i, H1, I1, .int i t, q⟩
def SlR (X : Cx) (r : V -> Option Int -> Option Int -> Hp -> VK -> Prop) : Prop :=
 ∀ (pins : List (Addr × Obj)) (s : Shared) (σ : St) (H : Hp) (x : V) (v vl vu : Value) (lo hi : Option Int) (sl : Addr) (Q : VK), Inv X pins σ H s -> xU x v -> s.heap.IsSliceOf sl vl vu .none -> IsPart vl lo -> IsPart vu hi -> r x lo hi H Q →
  ∃ T id, typeLookup (.type T) "__getitem__" = pure (some (.builtin id)) /\ s.TypeIs v T /\ wpAny (model X.prog X.w) X.A (getItem v (.ref sl)) (EP X pins σ Q) X.xe s
theorem SlR.or {r r' : V -> Option Int -> Option Int -> Hp -> VK -> Prop} (h : SlR X r) (h' : SlR X r') : SlR X (fun x lo hi H Q => r x lo hi H Q \/ r' x lo hi H Q) := by
 intro pins s σ H x v vl vu lo hi sl Q I rx hs pl pu q
 rcases q with q | q
 ·exact h pins s σ H x v vl vu lo hi sl Q I rx hs pl pu q
 ·exact h' pins s σ H x v vl vu lo hi sl Q I rx hs pl pu q
def tSl (r : V -> Option Int -> Option Int -> Hp -> VK -> Prop) (te : TE) (tl th : TO) : TE := fun σ H Q => te σ H fun x H1 => tl σ H1 fun l H2 => th σ H2 fun u H3 => r x l u H3 Q
theorem VY {r : V -> Option Int -> Option Int -> Hp -> VK -> Prop} (hr : SlR X r) (he : PE X e te) (hl : PO X lo tl) (hu : PO X hi th) : PE X (.Subscript e (.Slice lo hi none p2) pos) (tSl r te tl th) := by
 intro pins s σ H Q I h
 refine Subscript_ (thn (he pins s σ H _ I h) fun v s1 ⟨x, H1, I1, r1, q1⟩ => ?_)
 refine wpAny_Slice (thn (hl pins s1 σ H1 _ I1 q1) fun vl s2 ⟨l, H2, I2, pl, q2⟩ => thn (hu pins s2 σ H2 _ I2 q2) fun vu s3 ⟨u, H3, I3, pu, q3⟩ => ?_)
 rw [evalPart_none]
 refine wpAny_pure ?_
 have I4 : Inv X pins σ H3 { s3 with heap := s3.heap.push { cls := .type "slice", data := .fields #[vl, vu, .none] } } := I3.kept (t' := s3.toks) fun b ob q => Heap.get?_push_of_some _ q
 obtain ⟨T, id, hT, ht, hg⟩ := hr pins { s3 with heap := s3.heap.push { cls := .type "slice", data := .fields #[vl, vu, .none] } } σ H3 x v vl vu l u s3.heap.objs.size Q I4 r1 (Heap.IsSliceOf.new ..) pl pu q3
 show wpAny (model X.prog X.w) X.A (subscriptTail e (.Slice lo hi none p2) v (.ref s3.heap.objs.size)) (EP X pins σ Q) X.xe { s3 with heap := s3.heap.push { cls := .type "slice", data := .fields #[vl, vu, .none] } }
 exact tail_any (ops := [.ref s3.heap.objs.size, v]) ht hT hg (by with_unfolding_all rfl)
def Qi (xs : List V) (lo hi : Option Int) : List V := (xs.drop (HT.sIx xs.length 0 lo)).take (HT.sIx xs.length xs.length hi - HT.sIx xs.length 0 lo)
theorem ZE (xs : List V) (lo hi : Option Int) : (Qi xs lo hi).length <= xs.length := by
 unfold Qi
 rw [g1i, g1v]
 omega
def Nv (K : W.Frag) : V -> Option Int -> Option Int -> Hp -> VK -> Prop := fun x lo hi H Q => ∃ a xs, x = .ref a /\ SqT K H a xs ∧
 ¬ (HT.sIx xs.length 0 lo = 0 /\ HT.sIx xs.length xs.length hi = xs.length) /\ ∀ p, H p = none -> Q (.ref p) (upd H p (.tup (Qi xs lo hi)))
theorem CK : SlR X (Nv X.K) := by
 intro pins s σ H x v vl vu lo hi sl Q I rx hs pl pu h
 obtain ⟨a, xs, rfl, hx, hw, q⟩ := h
 cases rx
 obtain ⟨its, r, ht, hz⟩ := I.tuple hx
 have hlen : its.toArray.size = xs.length := by rw [g0u]; exact r.length.symm
 refine ⟨"tuple", _, PyProof.Rows.slot_tuple_getitem.lookup, ht.typeIs, ?_⟩
 refine HT.getItem_tuple_cut ht hs pl pu (by rw [hlen]; exact hw) ?_ (by rw [hlen]; exact hz)
 rw [hlen]
 refine ⟨.ref s.heap.objs.size, _, I.laid (t' := s.toks) (o := .tup (Qi xs lo hi)) (fun b ob q => Heap.get?_push_of_some _ q) (g0r _) ?_, rfl, q _ (I.hok.fresh (g0r _))⟩
 exact ⟨g2a (ZE xs lo hi) hz, _, (r.drop (HT.sIx xs.length 0 lo)).take (HT.sIx xs.length xs.length hi - HT.sIx xs.length 0 lo), IsTup.new _ _⟩
def Mf (K : W.Frag) : R2 := fun x y H Q => ∃ a b xs ys, x = .ref a /\ y = .ref b /\ SqT K H a xs /\ SqT K H b ys /\ xs ≠ [] /\ xs.length + ys.length <= sizeLine ∧
 (ys = [] -> Q (.ref a) H) /\ (ys ≠ [] -> ∀ p, H p = none -> Q (.ref p) (upd H p (.tup (xs ++ ys))))
theorem xf.nil_iff {xs : List V} {us : List Value} (r : xf xs us) : us = [] ↔ xs = [] := by
 cases r with
 | nil => simp
 | cons _ _ => simp
theorem Bq : OpR X (binaryOp .Add) (Mf X.K) := by
 intro pins s σ H x y v u Q I rx ry h
 obtain ⟨a, b, xs, ys, rfl, rfl, ha, hb, hx, hz, q1, q2⟩ := h
 cases rx
 cases ry
 obtain ⟨its, r1, p1, _⟩ := I.tuple ha
 obtain ⟨its2, r2, p2, _⟩ := I.tuple hb
 refine HT.cat_tup p1 p2 (fun z => hx (r1.nil_iff.mp z)) (fun z => ⟨.ref a, H, I, rfl, q1 (r2.nil_iff.mp z)⟩) (fun z => ?_) (by rw [<- r1.length, <- r2.length]; exact hz)
 refine ⟨.ref s.heap.objs.size, _, I.laid (t' := s.toks) (o := .tup (xs ++ ys)) (fun b ob q => Heap.get?_push_of_some _ q) (g0r _) ?_, rfl, q2 (fun w => z (r2.nil_iff.mpr w)) _ (I.hok.fresh (g0r _))⟩
 exact ⟨by rw [g0i]; exact hz, _, r1.append r2, IsTup.new _ _⟩
end
def ixN (n : Nat) (i : Int) : Option Nat := if 0 <= i then (if i < n then some i.toNat else none) else if -(n : Int) <= i then some (i + n).toNat else none
def atI {α : Type} (xs : List α) (i : Int) : Option α := (ixN xs.length i).bind fun j => xs[j]?
theorem BU {n : Nat} {i : Int} {j : Nat} (h : ixN n i = some j) : seqIndex? i n = some j /\ j < n /\ -(n : Int) <= i /\ i < n := by
 unfold ixN at h
 by_cases h0 : 0 <= i
 ·rw [if_pos h0] at h
  by_cases h1 : i < n
  ·rw [if_pos h1] at h
   have e : i.toNat = j := g2s.inj h
   exact ⟨by rw [seqIndex_of h0 h1, e], by omega, by omega, h1⟩
  ·rw [if_neg h1] at h; cases h
 ·rw [if_neg h0] at h
  by_cases h1 : -(n : Int) <= i
  ·rw [if_pos h1] at h
   have e : (i + n).toNat = j := g2s.inj h
   exact ⟨by rw [seqIndex_neg (by omega) h1, e], by omega, h1, by omega⟩
  ·rw [if_neg h1] at h; cases h
theorem Vw {α : Type} {xs : List α} {i : Int} {v : α} (h : atI xs i = some v) : ∃ j, seqIndex? i xs.length = some j /\ xs[j]? = some v /\ j < xs.length /\ -(xs.length : Int) <= i /\ i < xs.length := by
 unfold atI at h
 cases e : ixN xs.length i with
 | none => rw [e] at h; cases h
 | some j =>
  rw [e] at h
  obtain ⟨h1, h2, h3, h4⟩ := BU e
  exact ⟨j, h1, h, h2, h3, h4⟩
theorem uJ {α : Type} {xs : List α} {j : Nat} {v : α} (h : xs[j]? = some v) : atI xs (j : Int) = some v := by
 have hj : j < xs.length := (g0y.mp h).1
 have e : ixN xs.length (j : Int) = some j := by
  unfold ixN
  rw [if_pos (by omega), if_pos (by omega)]; simp
 unfold atI; rw [e]; exact h
def Vz (b : Expr) : Prop := ∀ o i, subscripted b false o i = operate [o, i] (getItem o i)
def IxR (X : Cx) (r : R2) : Prop :=
 ∀ (value slice : Expr) (pins : List (Addr × Obj)) (s : Shared) (σ : St) (H : Hp) (x y : V) (v u : Value) (Q : VK), Inv X pins σ H s -> xU x v -> xU y u -> r x y H Q →
  subscripted slice false v u = operate [v, u] (getItem v u) -> wpAny (model X.prog X.w) X.A (subscriptTail value slice v u) (EP X pins σ Q) X.xe s
def MtR (X : Cx) (id : String) (r : V -> List V -> Hp -> VK -> Prop) : Prop :=
 ∀ (pins : List (Addr × Obj)) (s : Shared) (σ : St) (H : Hp) (x : V) (xs : List V) (v : Value) (us : List Value) (Q : VK), Inv X pins σ H s -> xU x v -> xf xs us -> r x xs H Q →
  wpAny (model X.prog X.w) X.A (call (.builtin id) (v :: us)) (EP X pins σ Q) X.xe s
section
variable {X : Cx} {a b : Expr} {ta tb : TE} {pos : Pos}
theorem IxR.or {r r' : R2} (h : IxR X r) (h' : IxR X r') : IxR X (fun x y H Q => r x y H Q \/ r' x y H Q) := by
 intro value slice pins s σ H x y v u Q I rx ry q hs
 rcases q with q | q
 ·exact h value slice pins s σ H x y v u Q I rx ry q hs
 ·exact h' value slice pins s σ H x y v u Q I rx ry q hs
theorem Bk {r : R2} (hr : IxR X r) (ha : PE X a ta) (hb : PE X b tb) (hs : Vz b) : PE X (.Subscript a b pos) (tOp r ta tb) := by
 intro pins s σ H Q I h
 exact Subscript_ (MH ha hb I h fun v u s2 x y H2 I2 rx ry q => hr a b pins s2 σ H2 x y v u Q I2 rx ry q (hs _ _))
def M0 (K : W.Frag) : R2 := fun x y H Q => ∃ p xs i v, x = .ref p /\ y = .int i /\ SqL K H p xs /\ atI xs i = some v /\ Q v H
def MY (K : W.Frag) : R2 := fun x y H Q => ∃ p xs i v, x = .ref p /\ y = .int i /\ SqT K H p xs /\ atI xs i = some v /\ Q v H
def MZ : R2 := fun x y H Q => ∃ z i c, x = .str z /\ y = .int i /\ z.length <= sizeLine /\ atI z.cps.toList i = some c /\ Q (.str ⟨#[c]⟩) H
theorem BS : IxR X (M0 X.K) := by
 intro value slice pins s σ H x y v u Q I rx ry h hs
 obtain ⟨p, xs, i, z, rfl, rfl, hq, he, q⟩ := h
 cases rx
 obtain ⟨t, rfl⟩ := ry
 obtain ⟨its, r, pl, hz⟩ := I.list hq
 obtain ⟨j, h1, h2, h3, h4, h5⟩ := Vw he
 obtain ⟨w, ew, rw'⟩ := r.get h2
 have hl := r.length
 have hn := qK
 have fin : EP X pins σ Q w s := ⟨z, H, I, rw', q⟩
 by_cases h0 : 0 <= i
 ·have hj : i.toNat = j := by
   rw [seqIndex_of h0 h5] at h1
   exact g2s.inj h1
  exact item_listR pl.isList h0 (by omega) (by rw [hj]; simpa using ew) fin hs
 ·have hj : (i + (its.toArray.size : Int)).toNat = j := by
   rw [seqIndex_neg (by omega) h4] at h1
   rw [g0u, <- hl]
   exact g2s.inj h1
  exact subscriptTail_builtinR (x := w) pl.isList.typeIs slot_list_getitem.lookup
   (wpAny_getItem_list_neg (Q := fun r s' => r = w /\ EP X pins σ Q r s') pl.isList (by omega) (by rw [g0u] <;> omega) (by omega) (by rw [hj]; simpa using ew) ⟨rfl, fin⟩) hs
theorem DM : IxR X (MY X.K) := by
 intro value slice pins s σ H x y v u Q I rx ry h hs
 obtain ⟨p, xs, i, z, rfl, rfl, hq, he, q⟩ := h
 cases rx
 obtain ⟨t, rfl⟩ := ry
 obtain ⟨its, r, pl, hz⟩ := I.tuple hq
 obtain ⟨j, h1, h2, h3, h4, h5⟩ := Vw he
 obtain ⟨w, ew, rw'⟩ := r.get h2
 have hl := r.length
 have hn := qK
 have fin : EP X pins σ Q w s := ⟨z, H, I, rw', q⟩
 exact subscriptTail_builtinR (x := w) pl.typeIs slot_tuple_getitem.lookup
  (getItem_tuple (j := j) (Q := fun r s' => r = w /\ EP X pins σ Q r s') pl (by omega) (by omega) (by rw [g0u, <- hl]; exact h1) (by simpa using ew) ⟨rfl, fin⟩) hs
theorem DO : IxR X MZ := by
 intro value slice pins s σ H x y v u Q I rx ry h hs
 obtain ⟨z, i, c, rfl, rfl, hz, he, q⟩ := h
 obtain ⟨t, rfl⟩ := rx
 obtain ⟨t', rfl⟩ := ry
 obtain ⟨j, h1, h2, h3, h4, h5⟩ := Vw he
 have hl : z.cps.toList.length = z.length := by simp [Str.length]
 rw [hl] at h1 h4 h5
 have hn := qK
 exact tail_any (typeIs_str s z t) slot_str_getitem.lookup (getItem_str (c := c) (by
  have e1 : decide (i < -(2 ^ 63 : Int)) = false := decide_eq_false (by omega)
  have e2 : decide (i ≥ 2 ^ 63) = false := decide_eq_false (by omega)
  rw [e1, e2, Bool.or_false]) (by rw [h1]; simpa using h2) ⟨.str ⟨#[c]⟩, H, I.tok _, ⟨_, rfl⟩, q⟩) hs
def rIx (K : W.Frag) : R2 := fun x y H Q => M0 K x y H Q \/ MY K x y H Q \/ MZ x y H Q
theorem JR : IxR X (rIx X.K) := BS.or (DM.or DO)
theorem Xz (lo hi : Option Int) (n : Nat) : (sliceBounds lo hi none n).1 = ((HT.sIx n 0 lo : Nat) : Int) /\ (sliceBounds lo hi none n).2.1 = ((HT.sIx n n hi : Nat) : Int) /\ (sliceBounds lo hi none n).2.2 = 1 := by
 refine ⟨?_, ?_, rfl⟩
 ·cases lo with
  | none => simp [sliceBounds, HT.sIx]
  | some i =>
   simp only [sliceBounds, HT.sIx, Option.getD_none, show (1 : Int) > 0 by decide, if_true]
   by_cases h : i < 0
   ·simp only [h, if_true] <;> omega
   ·simp only [h, if_false] <;> omega
 ·cases hi with
  | none => simp [sliceBounds, HT.sIx]
  | some i =>
   simp only [sliceBounds, HT.sIx, Option.getD_none, show (1 : Int) > 0 by decide, if_true]
   by_cases h : i < 0
   ·simp only [h, if_true] <;> omega
   ·simp only [h, if_false] <;> omega
theorem YC (its : List Value) (lo hi : Option Int) : slicePick its.toArray lo hi none = ((its.drop (HT.sIx its.length 0 lo)).take (HT.sIx its.length its.length hi - HT.sIx its.length 0 lo)).toArray := by
 obtain ⟨h1, h2, h3⟩ := Xz lo hi its.toArray.size
 unfold slicePick
 rw [h1, h2, h3]
 simp only [sliceRange_one, pick_run, g0u] <;> rfl
def Nw (K : W.Frag) : V -> Option Int -> Option Int -> Hp -> VK -> Prop := fun x lo hi H Q => ∃ a xs, x = .ref a /\ SqL K H a xs /\ ∀ p, H p = none -> Q (.ref p) (upd H p (.lst (Qi xs lo hi)))
theorem HP : SlR X (Nw X.K) := by
 intro pins s σ H x v vl vu lo hi sl Q I rx hs pl pu h
 obtain ⟨a, xs, rfl, hx, q⟩ := h
 cases rx
 obtain ⟨its, r, ht, hz⟩ := I.list hx
 have hlen := r.length
 refine ⟨"list", _, slot_list_getitem.lookup, ht.isList.typeIs, ?_⟩
 refine wpAny_getItem_list_slice ht.isList hs pl pu .none (by simp) ?_ (by rw [g0u] <;> omega)
 rw [YC, <- hlen]
 refine ⟨.ref s.heap.objs.size, _, I.laid (t' := s.toks) (o := .lst (Qi xs lo hi)) (fun b ob q => Heap.get?_push_of_some _ q) (g0r _) ?_, rfl, q _ (I.hok.fresh (g0r _))⟩
 exact ⟨g2a (ZE xs lo hi) hz, _, 0, (r.drop (HT.sIx xs.length 0 lo)).take (HT.sIx xs.length xs.length hi - HT.sIx xs.length 0 lo), Heap.get?_push_size _ rfl⟩
theorem Wq : uN X (.builtin "len") (fun xs H Q => ∃ p ys, xs = [.ref p] /\ (SqL X.K H p ys \/ SqT X.K H p ys) /\ Q (.int ys.length) H) := by
 intro pins s σ H xs us Q I r h
 obtain ⟨p, ys, rfl, hq, q⟩ := h
 obtain ⟨u, rfl, rx⟩ := WL r
 cases rx
 have hn := qK
 rcases hq with hq | hq
 ·obtain ⟨its, r', pl, hz⟩ := I.list hq
  have hlen := r'.length
  exact Calls.call_len_list pl.isList (by simp only [g0u] <;> omega) ⟨.int ys.length, H, I.tok _, ⟨s.toks + 1, by rw [g0u, hlen]⟩, q⟩
 ·obtain ⟨its, r', pl, hz⟩ := I.tuple hq
  have hlen := r'.length
  exact len_tuple pl (by simp only [g0u] <;> omega) ⟨.int ys.length, H, I.tok _, ⟨s.toks + 1, by rw [g0u, hlen]⟩, q⟩
theorem Wp : uN X (.builtin "len") (fun xs H Q => ∃ z, xs = [.str z] /\ z.length <= sizeLine /\ Q (.int z.length) H) := by
 intro pins s σ H xs us Q I r h
 obtain ⟨z, rfl, hz, q⟩ := h
 obtain ⟨u, rfl, t, rfl⟩ := WL r
 have hn := qK
 exact len_str (by omega) ⟨.int z.length, H, I.tok _, ⟨_, rfl⟩, q⟩
theorem uN.or {f : Value} {r r' : List V -> Hp -> VK -> Prop} (h : uN X f r) (h' : uN X f r') : uN X f (fun xs H Q => r xs H Q \/ r' xs H Q) := by
 intro pins s σ H xs us Q I rs q
 rcases q with q | q
 ·exact h pins s σ H xs us Q I rs q
 ·exact h' pins s σ H xs us Q I rs q
theorem Wo : uN X (.type "list") (fun xs H Q => ∃ p ys, xs = [.ref p] /\ (SqL X.K H p ys \/ SqT X.K H p ys) /\ ∀ l, H l = none -> Q (.ref l) (upd H l (.lst ys))) := by
 intro pins s σ H xs us Q I r h
 obtain ⟨p, ys, rfl, hq, q⟩ := h
 obtain ⟨u, rfl, rx⟩ := WL r
 cases rx
 have fin : ∀ (its : List Value), xf ys its -> ys.length <= sizeLine -> ∀ (h' : Heap) (c' : Nat), (∀ b o', s.heap.get? b = some o' -> h'.get? b = some o') →
   h'.get? s.heap.objs.size = some { cls := .type "list", dict := none, data := .seq its.toArray c', slots := #[] } -> EP X pins σ Q (.ref s.heap.objs.size) { s with heap := h' } := fun its r' hz h' c' kp e =>
  ⟨.ref s.heap.objs.size, _, I.laid (t' := s.toks) kp (g0r _) (show qq X.prog X.w _ h' _ (.lst ys) from ⟨hz, its, c', r', e⟩), rfl, q _ (I.hok.fresh (g0r _))⟩
 rcases hq with hq | hq
 ·obtain ⟨its, r', pl, hz⟩ := I.list hq
  have hlen := r'.length
  obtain ⟨o, ho, hc, n, hd⟩ := pl.isList
  exact call_list_seq p (.inl rfl) ho hc hd (fun h' c' kp e => fin its r' hz h' c' kp e) (by simp only [g0u] <;> omega)
 ·obtain ⟨its, r', pl, hz⟩ := I.tuple hq
  have hlen := r'.length
  obtain ⟨o, ho, hc, n, hd⟩ := pl
  exact call_list_seq p (.inr rfl) ho hc hd (fun h' c' kp e => fin its r' hz h' c' kp e) (by simp only [g0u] <;> omega)
theorem x5 : uN X (.type "tuple") (fun xs H Q => ∃ p ys, xs = [.ref p] /\ ((SqL X.K H p ys /\ ∀ l, H l = none -> Q (.ref l) (upd H l (.tup ys))) \/ (SqT X.K H p ys /\ Q (.ref p) H))) := by
 intro pins s σ H xs us Q I r h
 obtain ⟨p, ys, rfl, h⟩ := h
 obtain ⟨u, rfl, rx⟩ := WL r
 cases rx
 rcases h with ⟨hq, q⟩ | ⟨hq, q⟩
 ·obtain ⟨its, r', pl, hz⟩ := I.list hq
  have hlen := r'.length
  refine call_tuple_list pl.isList (fun h' kp => ?_) (by simp only [g0u] <;> omega)
  have I1 : Inv X pins σ H { s with heap := h' } := I.kept (t' := s.toks) kp
  have I2 : Inv X pins σ (upd H h'.objs.size (.tup ys)) { s with heap := h'.push { cls := .type "tuple", data := .seq its.toArray } } :=
   I1.laid (t' := s.toks) (fun b o e => Heap.get?_push_of_some _ e) (g0r _) (show qq X.prog X.w _ _ _ (.tup ys) from ⟨hz, its, r', IsTup.new _ _⟩)
  exact ⟨.ref h'.objs.size, _, I2, rfl, q _ (I1.hok.fresh (g0r _))⟩
 ·obtain ⟨its, r', pl, hz⟩ := I.tuple hq
  exact call_tuple_same pl ⟨.ref p, H, I, rfl, q⟩
def tyV (K : W.Frag) (T : String) (x : V) (H : Hp) : Prop := match x with
 | .str _ => T = "str"
 | .int _ => T = "int"
 | .ref p => (T = "list" /\ ∃ xs, SqL K H p xs) \/ (T = "tuple" /\ ∃ o, K.lookup p = some o /\ o.cls = .type "tuple" /\ o.dict = none) ∨
   (T = "dict" /\ ((∃ kvs, H p = some (.dK kvs)) \/ ∃ kvs, H p = some (.dT kvs))) \/ (T = "set" /\ ∃ S n, H p = some (.set S n))
 | _ => False
theorem CF {pins : List (Addr × Obj)} {σ : St} {H : Hp} {s : Shared} {T : String} {x : V} {v : Value} (I : Inv X pins σ H s) (r : xU x v) (ty : tyV X.K T x H) :
  s.TypeIs v T /\ ∀ a, v = .ref a -> ∃ ob, s.heap.get? a = some ob /\ ob.dict = none := by
 cases x with
 | str z =>
  obtain ⟨t, rfl⟩ := r
  cases (show T = "str" from ty)
  exact ⟨typeIs_str s z t, fun _ e => nomatch e⟩
 | int i =>
  obtain ⟨t, rfl⟩ := r
  cases (show T = "int" from ty)
  exact ⟨typeIs_int s i t, fun _ e => nomatch e⟩
 | ref p =>
  cases r
  rcases ty with ⟨rfl, xs, hq⟩ | ⟨rfl, o, hk, hc, hd⟩ | ⟨rfl, hk⟩ | ⟨rfl, S, n, hk⟩
  ·obtain ⟨its, _, pl, _⟩ := I.list hq
   refine ⟨pl.isList.typeIs, fun a e => ?_⟩
   cases e
   obtain ⟨o, n, e, c, hd, _⟩ := pl
   exact ⟨o, e, hd⟩
  ·refine ⟨⟨o, I.kIn p o hk, hc⟩, fun a e => ?_⟩
   cases e
   exact ⟨o, I.kIn _ o hk, hd⟩
  ·have z : ∃ o, s.heap.get? p = some o /\ o.ExactDict := by
    rcases hk with ⟨kvs, hk⟩ | ⟨kvs, hk⟩
    ·obtain ⟨_, _, _, _, o, _, _, e, ex, _⟩ := I.hok p _ hk
     exact ⟨o, e, ex⟩
    ·obtain ⟨_, _, _, _, o, _, _, e, ex, _⟩ := I.hok p _ hk
     exact ⟨o, e, ex⟩
   obtain ⟨o, e, ex⟩ := z
   refine ⟨⟨o, e, ex.1⟩, fun a e2 => ?_⟩
   cases e2
   exact ⟨o, e, ex.2.1⟩
  ·obtain ⟨o, _, _, _, e, ex, _⟩ := I.hok p _ hk
   refine ⟨⟨o, e, ex.1⟩, fun a e2 => ?_⟩
   cases e2
   exact ⟨o, e, ex.2.1⟩
 | _ => exact False.elim ty
def tBM (K : W.Frag) (T : String) (r : V -> List V -> Hp -> VK -> Prop) (to : TE) (t : TA) : TE := fun σ H Q => to σ H fun x H1 => tyV K T x H1 /\ t σ H1 fun xs H2 => r x xs H2 Q
variable {o e : Expr} {es : List Expr} {to : TE} {t : TA} {name : Str} {apos cpos : Pos} {T id : String} {r : V -> List V -> Hp -> VK -> Prop}
theorem De (pa : PlainAttrs T) (slot : Slot T name id) (hty : typeOf (.builtin id) = pure (.type "method_descriptor")) (hm : MtR X id r) (ho : PE X o to) (ha : PA X (e :: es) t)
  (hbase : attributeBase o name X.env (eval o X.env) = eval o X.env := by rfl)
  (hfew : ((backTo cpos (starEach (e :: es) X.env)).all (fun x => !x.1) && (backToKw cpos (keywordEach [] X.env)).all (fun x => x.1.isSome)
   && decide ((e :: es).length + ([] : List Keyword).length + (if ([] : List Keyword).isEmpty then 0 else 1) < 30)) = true := by rfl)
  (hline : (apos.endLine == cpos.line) = true := by rfl) (hs : starEach (e :: es) X.env = (false, eval e X.env) :: starEach es X.env := by rfl) (hplain : (backTo cpos (starEach es X.env)).any (·.1) = false := by rfl) :
  PE X (.Call (.Attribute o name apos) (e :: es) [] cpos) (tBM X.K T r to t) := by
 intro pins s σ H Q I h
 refine wpAny_Call_method_late hbase hfew hline rfl (thn (ho pins s σ H _ I h) fun v s1 ⟨x, H1, I1, r1, ty, q1⟩ => ?_)
 obtain ⟨h1, h2⟩ := CF I1 r1 ty
 refine ⟨T, id, pa, slot, hty, h1, h2, ?_⟩
 have hA := ha cpos pins s1 σ H1 _ I1 q1
 rw [hs] at hA ⊢
 refine Calls.callWith_builtin (by show (false || (backTo cpos (starEach es X.env)).any (·.1)) = false; rw [hplain] <;> rfl) (Calls.evalArgs_plain ?_)
 exact thn hA fun us s2 ⟨vs, H2, I2, r2, q2⟩ => hm pins s2 σ H2 x vs v us Q I2 r1 r2 q2
end
def MtM (X : Cx) (id : String) (r : V -> List V -> Hp -> VK -> Prop) : Prop :=
 ∀ (pins : List (Addr × Obj)) (s : Shared) (σ : St) (H : Hp) (x : V) (xs : List V) (v : Value) (us : List Value) (Q : VK), Inv X pins σ H s -> xU x v -> xf xs us -> r x xs H Q →
  wpAny (model X.prog X.w) X.A (call (.builtin id) (v :: us)) (EP X pins σ Q) X.xe s
theorem xf.one : ∀ {x : V} {us : List Value}, xf [x] us -> ∃ u, us = [u] /\ xU x u
 | _, _, .cons r .nil => ⟨_, rfl, r⟩
theorem xf.reverse {xs : List V} {us : List Value} (h : xf xs us) : xf xs.reverse us.reverse := by
 induction h with
 | nil => exact .nil
 | cons r t ih => rw [g2f, g2f]; exact xf.append ih (.cons r .nil)
theorem xf.rep {xs : List V} {us : List Value} (h : xf xs us) : ∀ k : Nat, xf (g0g k xs).flatten (g0g k us).flatten
 | 0 => .nil
 | k + 1 => by
  rw [g1r, g1r, g2l, g2l]
  exact xf.append h (xf.rep h k)
theorem Wb (its : List Value) : ∀ (k : Nat) (acc : List Value),
  List.foldl (fun x1 x2 => x1 ++ x2) acc.toArray (g0g k its.toArray) = (acc ++ (g0g k its).flatten).toArray
 | 0, acc => by simp
 | k + 1, acc => by
  have e : acc.toArray ++ its.toArray = (acc ++ its).toArray := by simp
  have e2 : (acc ++ its) ++ (g0g k its).flatten = acc ++ (g0g (k + 1) its).flatten := by
   rw [g1r, g2l, g0x]
  rw [<- e2, <- Wb its k (acc ++ its), <- e, g1r, List.foldl_cons]
section
variable {X : Cx} {pins : List (Addr × Obj)} {σ : St} {H : Hp} {s : Shared} {l b : Addr} {xs ys zs : List V}
theorem Inv.lset {its its' : List Value} {n : Nat} {f : Array Value -> Array Value} {t' : Nat} (I : Inv X pins σ H s) (hH : H l = some (.lst xs))
  (e : s.heap.get? l = some { cls := .type "list", data := .seq its.toArray n }) (hf : f its.toArray = its'.toArray) (hv : xf ys its') (hz : ys.length <= sizeLine) :
  Inv X pins σ (upd H l (.lst ys)) { s with heap := s.heap.update l (Obj.mapSeq f), toks := t' } := by
 have q := PySem.IsL.update e f
 rw [hf] at q
 refine I.write (x := l) (e := l) (by rw [hH]; exact trivial) (.inl rfl) (fun b' u hb hu => (Heap.get?_update_other s.heap (Obj.mapSeq f) (Ne.symm hb)).trans hu) ⟨_, q⟩ ?_
 exact ⟨hz, its', _, hv, q⟩
theorem Inv.lnew {its : List Value} {t' : Nat} (I : Inv X pins σ H s) (hv : xf ys its) (hz : ys.length <= sizeLine) :
  Inv X pins σ (upd H s.heap.objs.size (.lst ys)) { s with heap := s.heap.push { cls := .type "list", data := .seq its.toArray }, toks := t' } :=
 I.laid (fun _ _ q => Heap.get?_push_of_some _ q) (g0r _) ⟨hz, its, 0, hv, Heap.get?_push_size _ rfl⟩
theorem Inv.fresh (I : Inv X pins σ H s) : H s.heap.objs.size = none := I.hok.fresh (g0r _)
theorem Inv.lstM (I : Inv X pins σ H s) (hH : H l = some (.lst xs)) : xs.length <= sizeLine /\ ∃ (its : List Value) (n : Nat), xf xs its /\ xs.length = its.length /\ s.heap.get? l = some { cls := .type "list", data := .seq its.toArray n } := by
 obtain ⟨z, its, n, r, e⟩ := I.hok l _ hH
 exact ⟨z, its, n, r, r.length, e⟩
end
section
variable {X : Cx}
def Bd : V -> List V -> Hp -> VK -> Prop := fun x vs H Q => ∃ l xs y, x = .ref l /\ vs = [y] /\ H l = some (.lst xs) /\ xs.length < sizeLine /\ Q .non (upd H l (.lst (xs ++ [y])))
theorem Zq : MtM X "list.append" Bd := by
 intro pins s σ H x vs v us Q I rx rv h
 obtain ⟨l, xs, y, rfl, rfl, hH, hz, q⟩ := h
 cases rx
 obtain ⟨u, rfl, ru⟩ := rv.one
 obtain ⟨z, its, n, r, hl, e⟩ := I.lstM hH
 refine call_meets F.slot_list_append ⟨_, e, rfl⟩ F.entry_list_append (F.args_list_append_2 _ _) (PySem.list_append l its.toArray n u (by rw [g0u]; omega)) ⟨e, ?_⟩
 refine ⟨.non, _, I.lset (its' := its ++ [u]) hH e (by simp) (r.append (.cons ru .nil)) ?_, rfl, q⟩
 rw [g0i, g1k]
 omega
theorem BQ {α : Type} (xs : List α) (k : Nat) : (g0g k xs).flatten.length = k * xs.length := by
 induction k with
 | zero => simp
 | succ k ih => rw [g1r, g2l, g0i, ih, Nat.succ_mul, Nat.add_comm]
end
section
variable {prog : Program} {w : World} {A : Around} {E : Value -> Shared -> Prop} {s : Shared}
end
section
variable {X : Cx}
end
section
variable {κ : Type} [DecidableEq κ]
end
section
variable {P : Program} {w : World} {H : Hp} {h : Heap} {a : Addr}
end
section
variable {X : Cx} {pins : List (Addr × Obj)} {σ : St} {H : Hp} {s : Shared} {a : Addr} {y v : V} {u r : Value} {o : Option V} {A : Around} {E : Value -> Shared -> Prop}
end
section
variable {X : Cx} {pins : List (Addr × Obj)} {σ : St} {H : Hp} {s : Shared} {a : Addr} {kvs : List (Key × V)} {k : Key} {u : Value} {A : Around} {E : Value -> Shared -> Prop}
end
def Nb (i : Expr) : Prop := ∀ ov iv, subscripted i false ov iv = operate [ov, iv] (getItem ov iv)
theorem HN {prog : Program} {w : World} {A : Around} {E : Value -> Shared -> Prop} {s : Shared} {env : Env} {value slice : Expr} {pos : Pos} {T id : String} {Q : Value -> Shared -> Prop}
  (hl : typeLookup (.type T) "__getitem__" = pure (some (.builtin id))) (hs : Nb slice)
  (h : wpAny (model prog w) A (eval value env) (fun o s₁ => wpAny (model prog w) A (eval slice env) (fun i s₂ => s₂.TypeIs o T /\ wpAny (model prog w) A (getItem o i) Q E s₂) E s₁) E s) :
  wpAny (model prog w) A (eval (.Subscript value slice pos) env) Q E s := by
 refine Subscript_ (wpAny_mono h (fun o s₁ h₁ => wpAny_mono h₁ (fun i s₂ h₂ => ?_) fun _ _ x => x) fun _ _ x => x)
 obtain ⟨hT, h₂⟩ := h₂
 unfold subscriptTail
 refine wpAny_bind ?_
 rw [getitemInPython_of_ne hT.not_modules]
 refine wpAny_bind (wpAny_specialOf hT hl ?_)
 have fin : wpAny (model prog w) A (subscripted slice false o i) (fun r s₃ => wpAny (model prog w) A (letTemporaryGo value o r >>= fun _ => pure r) Q E s₃) E s₂ := by
  rw [hs o i]
  exact wpAny_operating (wpAny_mono h₂ (fun r s₃ h₃ => wpAny_bind (wpAny_letTemporaryGo (wpAny_pure h₃))) fun _ _ x => x)
 first
  | exact wpAny_pure (wpAny_bind fin)
  | exact wpAny_bind (wpAny_pure (wpAny_bind fin))
  | exact wpAny_bind fin
section
variable {X : Cx} {o i e value : Expr} {pos pos' tpos : Pos} {td ty tv : TE}
end
section
variable {X : Cx} {pos : Pos}
end
section
variable {X : Cx} {pins : List (Addr × Obj)} {σ : St} {H : Hp} {s : Shared} {a : Addr} {y d : V} {u r : Value} {o : Option V} {A : Around} {E : Value -> Shared -> Prop}
end
section
variable {X : Cx} {o e f : Expr} {apos cpos : Pos} {td ty tx : TE}
end
section
variable {X : Cx} {pins : List (Addr × Obj)} {σ : St} {H : Hp} {s : Shared} {a : Addr} {kvs : List (Key × V)} {A : Around} {E : Value -> Shared -> Prop}
end
section
variable {X : Cx} {pins : List (Addr × Obj)} {σ : St} {H : Hp} {s : Shared} {a : Addr} {y : V} {u : Value} {A : Around} {E : Value -> Shared -> Prop}
end
end L2
namespace Att
open PySem PySem.W PySem.Calls PyProof.Rows
theorem Zx {P : Params} {h : Heap} : ∀ (ns : List Int) (vs : List Value), WellAll P h vs (ns.map WData.int) -> IntsAre vs ns := by
 intro ns
 induction ns with
 | nil =>
  intro vs w
  rw [g0o] at w
  cases w
  exact .nil
 | cons n ns ih =>
  intro vs w
  rw [g0f] at w
  cases w with
  | cons a b =>
   cases a
   exact .cons _ _ (ih _ b)
theorem QQ {l : OpenLaw} {n : Nat} (hn : l.most = some n) {P : Params} {h : Heap} {args : List WData} {vals : List Value}
  (hpre : l.row.toRowW.claim.pre args = true) (hwl : WellAll P h vals args) :
  ∃ a vs ns, vals = [Value.ref a] /\ args = [WData.list (ns.map WData.int)] /\ h.get? a = some { cls := .type "list", data := .seq vs.toArray } /\ IntsAre vs ns /\ ns.length <= n := by
 have hsh : WShape.hasAll [] args [.list .int] = true := (pre_splitW hpre).1
 have hc : l.pre.holds [] { args := args } = true := (pre_splitW hpre).2
 obtain ⟨d, r, rfl, h1, h2⟩ := hasAllW_cons hsh
 obtain rfl := hasAllW_nil h2
 obtain ⟨xs, rfl, h3⟩ := hasW_list h1
 obtain ⟨ns, rfl⟩ := items_int h3
 have hlen : ns.length <= n := by
  unfold OpenLaw.pre at hc
  have h4 : (WTm.not (.lt (.lit (.int (n : Int))) (.len (.arg 0)))).holds [] { args := [.list (ns.map .int)] } = true := by
   have h4 := (holds_andW hc).1
   rw [hn] at h4
   exact h4
  have h5 := condW_of h4 (w_not (w_lt w_lit (w_len_list (w_arg rfl))))
  rw [g1j] at h5
  refine Nat.le_of_not_lt fun q => ?_
  have q' : (n : Int) < ((ns.length : Nat) : Int) := by omega
  first
   | (rw [decide_eq_true q'] at h5; exact absurd h5 (by decide))
   | (simp at h5; omega)
 cases hwl with
 | cons w1 w2 =>
  cases w2
  cases w1 with
  | list ho hall => exact ⟨_, _, ns, rfl, rfl, ho, Zx ns _ hall, hlen⟩
theorem Q8 (l : OpenLaw) (args : List WData) : l.row.toRowW.claim.post args (.bool true) args = true :=
 postW_of (r := l.row.toRowW) (X := (true == true))
  (show WShape.has [] (.bool true) .bool = true by first | rfl | decide | simp [WShape.has, WShape.arms, WShape.armsAll])
  (show (WTm.eq .res (.lit (.bool true))).value [] { args := args, res := some (.bool true), after := args } = some (.bool (true == true)) from w_eq_bool (w_res rfl) w_lit) rfl
theorem attach_call {l : OpenLaw} {n : Nat} {q : Program} {loose : List Str} {XP : (Str -> Option Value) -> Heap -> Prop} {YP : World -> Heap -> Prop} {d : DefRec}
  (hn : l.most = some n) (hdf : d.params.defaults = [])
  (call : ∀ (w : World) (s₀ s₁ : Shared) (mg mb : Str -> Option Value) (fa : Addr) (o : Obj) (pm cd doc : Value) (a : Addr) (vs : List Value) (ns : List Int),
   Ground q loose [] XP w s₀ mg mb s₁.heap -> YP w s₁.heap →
   s₁.heap.get? fa = some o -> o.data = .func (docDef d.name d.params d.body d.scope pm cd doc) -> s₁.heap.CodeRec cd d.name -> mg d.name = some (.ref fa) →
   s₁.heap.get? a = some { cls := .type "list", data := .seq vs.toArray } -> IntsAre vs ns -> ns.length <= n -> s₁.gens = #[] →
   codeAny (model l.prog w) callerA (.call (.ref fa) ⟨[.ref a], []⟩) (fun r s' => r = .ok (.ret (.bool true)) /\ OldK s₁.heap s'.heap /\ s'.os = s₁.os /\ AllBare s'.gens) s₁) :
  WalkO q loose XP YP l.row.toRowW d [] (fun f vs => PySem.call f vs) := by
 intro w s₀ s₁ mg mb G Y fa o pm cd doc dV kV ho hd hcd hD hmg hg args vals as hpre hlay hrd hwl hlo
 obtain rfl : dV = .none := Dflts.none hD hdf
 obtain rfl : kV = .none := Dflts.noKw hD
 obtain ⟨a, vs, ns, rfl, rfl, hobj, hints, hlen⟩ := QQ hn hpre hwl
 refine enter_call (codeAny_mono (call w s₀ s₁ mg mb fa o pm cd doc a vs ns G Y ho (fd_plain hd) hcd hmg hobj hints hlen hg) fun r s' hq => ?_)
 obtain ⟨rfl, h2, h3, h4⟩ := hq
 exact ⟨.inl ⟨.bool true, .bool true, [], rfl, fun _ => rfl, .bool true, Q8 l _, fun _ => ⟨List.Pairwise.nil, fun _ hm => (nomatch hm)⟩⟩, h2, h3, h4⟩
section
variable {prog : Program} {w : World} {A : Around} {E : Value -> Shared -> Prop} {s : Shared} {K : Frag}
def M6 (h : Heap) (L d : Addr) : List (Addr × Obj) := (g1e h.objs.size).filterMap fun a => if a = L \/ a = d then none else (h.get? a).map fun o => (a, o)
end
end Att
namespace L2
open PySem PySem.Spec PyProof.Rows
theorem Xu : ∀ {vs : List Value} {ns : List Int}, IntsAre vs ns -> xf (ns.map V.int) vs
 | _, _, .nil => .nil
 | _, _, .cons n t h => .cons ⟨t, rfl⟩ (Xu h)
def FF (H : Hp) : Prop := ∀ b, H b = none \/ ∃ o xs, H b = some (.frz o (.lst xs))
theorem Gx {P : Program} {w : World} {K : W.Frag} {mg mb : Str -> Option Value} {CX : CXT} {k : Nat} {fa a : Addr} {fd : FuncData} {x : Str} {sp : Sp} {s₁ : Shared} {vs : List Value} {ns : List Int}
  (KX : K.In s₁.heap) (hns : s₁.heap.Ns mainGlobals mg) (hb : s₁.heap.Ns builtinsNs mb) (hbb : ∀ x : Str, x ≠ "__name__" -> mb x = bootBuiltins x) (hlim : s₁.heap.NoLimit) (hg : s₁.gens = #[])
  (ha : s₁.heap.get? a = some { cls := .type "list", data := .seq vs.toArray }) (hi : IntsAre vs ns) (hl : ns.length <= sizeLine) (hr : Room k callerA)
  (F : ∀ base : Heap, K.In base -> base.Ns mainGlobals mg -> FnOk P w K mg base CX k fa fd [x] sp) (hbind : ∀ (s : Shared) (u : Value), BindsTo s fd ⟨[u], []⟩ [(x, u)])
  (hsp : ∀ H : Hp, FF H -> SqL K H a (ns.map V.int) -> sp [.ref a] H (fun v _ => v = .bl true) fun _ _ _ => False)
  (hCX : ∀ H e s', CX [] H s₁ (fun _ _ _ => False) e s' -> False) :
  codeAny (model P w) callerA (.call (.ref fa) ⟨[.ref a], []⟩) (fun r s' => r = .ok (.ret (.bool true)) /\ OldK s₁.heap s'.heap /\ s'.os = s₁.os /\ AllBare s'.gens) s₁ := by
 have rv := Xu hi
 have lenV := hi.length
 have core : ∀ H : Hp, FF H -> SqL K H a (ns.map V.int) -> HOk P w H s₁.heap -> (∀ b, H b ≠ none -> b = a) -> (H a ≠ none -> K.lookup a = none) →
   codeAny (model P w) callerA (.call (.ref fa) ⟨[.ref a], []⟩) (fun r s' => r = .ok (.ret (.bool true)) /\ OldK s₁.heap s'.heap /\ s'.os = s₁.os /\ AllBare s'.gens) s₁ := by
  intro H hO hS hok hA hK
  have base_of : ∀ {b : Addr} {o : Obj}, s₁.heap.get? b = some o -> H b = none -> (GF s₁.heap H).get? b = some o := fun e n => GE e n
  have noA : ∀ {b : Addr} {o : Obj} {es : Array DictEntry} {ep : Nat}, s₁.heap.get? b = some o -> o.data = .dict es ep -> H b = none := fun {b o es ep} e d => by
   cases q : H b with
   | none => rfl
   | some u =>
    have e' : b = a := hA b (by rw [q]; simp)
    subst e'
    rw [ha] at e; cases e
    have d' : Data.seq vs.toArray _ = Data.dict es ep := d
    cases d'
  have nsK : ∀ {b : Addr} {m : Str -> Option Value}, s₁.heap.Ns b m -> (GF s₁.heap H).Ns b m := fun {b m} ⟨o, es, ep, e, d, r⟩ => ⟨o, es, ep, base_of e (noA e d), d, r⟩
  have hKb : K.In (GF s₁.heap H) := fun b o e => base_of (KX b o e) (by
   cases q : H b with
   | none => rfl
   | some u =>
    have e' : b = a := hA b (by rw [q]; simp)
    subst e'
    rw [hK (by rw [q]; simp)] at e; cases e)
  have hM : Mod K mg (GF s₁.heap H) := ⟨hKb, nsK hns, ⟨mb, nsK hb, hbb⟩, let ⟨mc, h1, h2⟩ := hlim; ⟨mc, nsK h1, h2⟩⟩
  have e0 : Env0 P w K mg (GF s₁.heap H) callerA [] s₁ H := ⟨rfl, hM, fun b o e => BA e, Nat.le_of_eq (JV _ _), trivial, fun b hb => absurd (show b ∈ ([] : List Addr) from hb) (by simp), hok, .of_eq hg⟩
  refine codeAny_mono ((F _ hKb (nsK hns)).run callerA [] s₁ H ⟨[.ref a], []⟩ [.ref a] [.ref a] _ _ hr e0 (hbind s₁ (.ref a)) (.cons rfl .nil) (hsp H hO hS)) fun r s' h => ?_
  cases r with
  | error e => exact (hCX H e s' h).elim
  | ok fl =>
   cases fl with
   | next => exact False.elim h
   | brk => exact False.elim h
   | cont => exact False.elim h
   | ret u =>
    obtain ⟨v, H', os, bare, un, hok', r', q⟩ := h
    have q' : v = .bl true := q
    subst q'
    obtain rfl : u = Value.bool true := r'
    refine ⟨rfl, OldK.of_keep fun b o e => ?_, os, bare⟩
    cases q : H b with
    | none => exact un.keep b o e q (by intro z; exact absurd (show b ∈ ([] : List Addr) from z) (by simp)) (by simp)
    | some u =>
     rcases hO b with z | ⟨ob, xs, z⟩
     ·rw [q] at z; cases z
     ·have z2 := un.frzs b ob _ z
      obtain ⟨e1, _⟩ := hok b _ z
      obtain ⟨e2, _⟩ := hok' b _ z2
      rw [e] at e1; cases e1
      exact e2
 cases hk : K.lookup a with
 | some o =>
  have e := KX a o hk
  rw [ha] at e
  cases e
  refine core (fun _ => none) (fun _ => .inl rfl) (.inr ⟨_, vs.toArray, _, hk, rfl, rfl, rfl, by rw [g0u, lenV]; exact hl, by simpa using rv⟩) (fun b u z => by have z' : (none : Option HO) = some u := z; cases z') (fun b z => absurd rfl z) fun z => absurd rfl z
 | none =>
  refine core (fun b => if b = a then some (.frz { cls := .type "list", data := .seq vs.toArray } (.lst (ns.map V.int))) else none) (fun b => ?_) (.inl (.inr ⟨{ cls := .type "list", data := .seq vs.toArray }, if_pos rfl⟩)) (fun b u z => ?_) (fun b z => ?_) fun _ => hk
  ·by_cases hb : b = a
   ·exact .inr ⟨_, _, if_pos hb⟩
   ·exact .inl (if_neg hb)
  ·by_cases hb : b = a
   ·have z' := (if_pos hb).symm.trans z
    cases z'
    subst hb
    exact ⟨ha, by rw [g1j]; exact hl, vs, _, rv, ha⟩
   ·have z' := (if_neg hb).symm.trans z
    cases z'
  ·by_cases hb : b = a
   ·exact hb
   ·exact absurd (if_neg hb) z
theorem HJ {l : W.OpenLaw} {n k : Nat} {q : Program} {loose : List Str} {XP : (Str -> Option Value) -> Heap -> Prop} {YP : World -> Heap -> Prop} {d : DefRec} {K : Params -> W.Frag} {CX : World -> CXT} {sp : World -> Sp} {x : Str}
  (hn : l.most = some n) (hn2 : n <= sizeLine) (hdf : d.params.defaults = []) (hr : Room k callerA)
  (hY : ∀ (w : World) (h : Heap), YP w h -> (K w.params).In h)
  (F : ∀ (w : World) (mg : Str -> Option Value) (fa : Addr) (h : Heap), (K w.params).In h -> h.Ns mainGlobals mg -> mg d.name = some (.ref fa) →
   ∃ fd : FuncData, (∀ (s : Shared) (u : Value), BindsTo s fd ⟨[u], []⟩ [(x, u)]) ∧
    ∀ base : Heap, (K w.params).In base -> base.Ns mainGlobals mg -> FnOk l.prog w (K w.params) mg base (CX w) k fa fd [x] (sp w))
  (hsp : ∀ (w : World) (H : Hp) (a : Addr) (ns : List Int), ns.length <= n -> FF H -> SqL (K w.params) H a (ns.map V.int) -> sp w [.ref a] H (fun v _ => v = .bl true) fun _ _ _ => False)
  (hCX : ∀ (w : World) (H : Hp) (s : Shared) (e : Value) (s' : Shared), CX w [] H s (fun _ _ _ => False) e s' -> False) :
  PySem.W.WalkO q loose XP YP l.row.toRowW d [] (fun f vs => PySem.call f vs) := by
 refine Att.attach_call hn hdf fun w s₀ s₁ mg mb fa o pm cd doc a vs ns G Y ho hd hcd hmg hobj hints hlen hg => ?_
 have KX := hY w _ Y
 obtain ⟨fd, hb, hF⟩ := F w mg fa _ KX G.T.g hmg
 exact Gx KX G.T.g G.T.b G.T.builtins G.T.nolimit hg hobj hints (g2a hlen hn2) hr hF hb (fun H hO hS => hsp w H a ns hlen hO hS) fun H e s' => hCX w H s₁ e s'
theorem walk_ofK {l : W.OpenLaw} {n k : Nat} {q : Program} {loose : List Str} {XP : (Str -> Option Value) -> Heap -> Prop} {YP : World -> Heap -> Prop} {d : DefRec} {K : Params -> W.Frag} {CX : CXT} {sp : W.Frag -> Sp} {x : Str}
  (hn : l.most = some n) (hn2 : n <= sizeLine) (hdf : d.params.defaults = []) (hr : Room k callerA)
  (hY : ∀ (w : World) (h : Heap), YP w h -> (K w.params).In h)
  (F : ∀ (w : World) (mg : Str -> Option Value) (fa : Addr) (h : Heap), (K w.params).In h -> h.Ns mainGlobals mg -> mg d.name = some (.ref fa) →
   ∃ fd : FuncData, (∀ (s : Shared) (u : Value), BindsTo s fd ⟨[u], []⟩ [(x, u)]) ∧
    ∀ base : Heap, (K w.params).In base -> base.Ns mainGlobals mg -> FnOk l.prog w (K w.params) mg base CX k fa fd [x] (sp (K w.params)))
  (hsp : ∀ (K : W.Frag) (H : Hp) (a : Addr) (ns : List Int), ns.length <= n -> FF H -> SqL K H a (ns.map V.int) -> sp K [.ref a] H (fun v _ => v = .bl true) fun _ _ _ => False)
  (hCX : ∀ (H : Hp) (s : Shared) (e : Value) (s' : Shared), CX [] H s (fun _ _ _ => False) e s' -> False) :
  PySem.W.WalkO q loose XP YP l.row.toRowW d [] (fun f vs => PySem.call f vs) :=
 HJ (K := K) (CX := fun _ => CX) (sp := fun w => sp (K w.params)) hn hn2 hdf hr hY F (fun w H a ns h1 h2 h3 => hsp (K w.params) H a ns h1 h2 h3) fun _ H s e s' => hCX H s e s'
def Y6 (s : Stmt) (j : Nat) : Stmt := match s with
 | .ClassDef _ _ _ body _ _ _ _ _ _ _ => body.getD j (.Pass ⟨0, 0, 0, 0⟩)
 | _ => .Pass ⟨0, 0, 0, 0⟩
def zA (s : Stmt) : Arguments := match s with
 | .FunctionDef _ a _ _ _ _ _ _ _ _ => a
 | _ => { posonlyargs := [], args := [], vararg := none, kwonlyargs := [], kw_defaults := [], kwarg := none, defaults := [] }
def zy (s : Stmt) : List Stmt := match s with
 | .FunctionDef _ _ b _ _ _ _ _ _ _ => b
 | _ => []
def zd (s : Stmt) : Scope := match s with
 | .FunctionDef _ _ _ _ _ _ sc _ _ _ => sc
 | _ => { kind := .function, names := [], isGenerator := false, isCoroutine := false }
abbrev CX0 : CXT := fun _ _ _ _ _ _ => False
abbrev E0 : XK := fun _ _ _ => False
theorem kD {X : Cx} : kA CX0 X E0 := fun _ _ _ _ _ _ _ h => h.elim
structure Fun (K : W.Frag) (x qual : Str) (st : Stmt) (f : Addr) (fd : FuncData) : Prop where
 ex : ∃ (oc : Value) (od : Option Addr) (kV doc pm : Value) (an : Option Addr) (cdv ct : Value) (osl : Array (Option Value)),
  fd = W.fnOf x qual (zA st) (zy st) (zd st) .none kV doc pm an cdv ct /\ K.lookup f = some ⟨oc, od, .func fd, osl⟩ /\ W.codeIn K cdv qual = true
 kp : W.keepIn K (.ref f) = true
section
variable {P : Program} {w : World} {K : W.Frag} {mg : Str -> Option Value} {base : Heap}
theorem Fun.ok {x qual : Str} {st : Stmt} {f : Addr} {fd : FuncData} {N ps : List Str} {k : Nat} {sp : Sp} (F : Fun K x qual st f fd) (S : FnScope N ps (zd st)) (len : ∀ vs H Q E, sp vs H Q E -> vs.length = ps.length)
  (JW : ∀ (cdv : Value) (A : Around) (outer : List Env) (s : Shared) (H : Hp) (vs : List V) (Q : VK) (E : XK), Room k (A.deeper (envOfC qual (zd st) s.heap.objs.size f cdv)) -> sp vs H Q E →
   ∃ t, PSs (GY CX0 P w K mg base N qual (zd st) f cdv A outer s H E).nox (zy st) t /\ t { nx := fun _ H' => Q .non H', rt := Q } (start N vs) H) : FnOk P w K mg base CX0 (k + 1) f fd ps sp := by
 obtain ⟨oc, od, kV, doc, pm, an, cdv, ct, osl, rfl, lk, hcd⟩ := F.ex
 refine Mx lk hcd S len fun A outer s H vs Q E hr hsp => ?_
 obtain ⟨t, h, q⟩ := JW cdv A outer s H vs Q E hr hsp
 exact ⟨t, h.nox, q⟩
theorem Fun.binds {x qual : Str} {st : Stmt} {f : Addr} {fd : FuncData} {ps : List Str} (F : Fun K x qual st f fd)
  (h : ∀ (kV doc pm : Value) (an : Option Addr) (cdv ct : Value) (us : List Value), us.length = ps.length -> bindArgs (W.fnOf x qual (zA st) (zy st) (zd st) .none kV doc pm an cdv ct) ⟨us, []⟩ = pure (ps.zip us)) : uO K fd ps [] := by
 obtain ⟨oc, od, kV, doc, pm, an, cdv, ct, osl, rfl, lk, hcd⟩ := F.ex
 exact .all (h kV doc pm an cdv ct)
theorem z6 {x qual : Str} {st : Stmt} {f : Addr} {oc : Value} {od an : Option Addr} {osl : Array (Option Value)} {kV doc pm cdv ct : Value} (l : K.lookup f = some ⟨oc, od, .func (W.fnOf x qual (zA st) (zy st) (zd st) .none kV doc pm an cdv ct), osl⟩)
  (c : W.codeIn K cdv qual = true) (k : W.keepIn K (.ref f) = true) : Fun K x qual st f (W.fnOf x qual (zA st) (zy st) (zd st) .none kV doc pm an cdv ct) := ⟨⟨oc, od, kV, doc, pm, an, cdv, ct, osl, rfl, l, c⟩, k⟩
end
theorem ua {n : Nat} (h : n <= 1000) : n < sizeLine := g3e h (by decide)
section
variable {X : Cx}
theorem pv (i : Nat) {x : Str} {pos : Pos} (hN : X.N[i]? = some x := by rfl) (hv : Vis X.env.scope x := by first | exact Or.inl rfl | exact Or.inr (Or.inl rfl) | exact Or.inr (Or.inr rfl)) (hd : (x == ("__debug__" : Str)) = false := by decide)
  (hcd : (x == ("__classdict__" : Str)) = false := by decide) : PE X (.Name x pos) (MJ i) := VX hN hv hd hcd
end
theorem Gz {A B : Prop} (h : B) : if false = true then A else B := by
 rw [if_neg g1q]
 exact h
theorem Gy {A B : Prop} (h : A) : if true = true then A else B := by
 rw [if_pos rfl]
 exact h
def yo (H H' : Hp) : Prop := ∀ b o, H b = some o -> H' b = some o
theorem yo.trans {H H1 H2 : Hp} (a : yo H H1) (b : yo H1 H2) : yo H H2 := fun c o h => b c o (a c o h)
theorem yo.free {H H' : Hp} (e : yo H H') {l : Addr} (h : H' l = Option.none) : H l = Option.none := by
 cases q : H l with
 | none => rfl
 | some o =>
  rw [e l o q] at h
  cases h
theorem yo.seq {K : W.Frag} {H H' : Hp} {a : Addr} {xs : List V} (e : yo H H') (h : SqL K H a xs) : SqL K H' a xs := by
 rcases h with (h | ⟨o, h⟩) | h
 ·exact .inl (.inl (e _ _ h))
 ·exact .inl (.inr ⟨o, e _ _ h⟩)
 ·exact .inr h
section
variable {κ : Type} [DecidableEq κ]
end
end L2
set_option maxHeartbeats 4000000
namespace FL
open PySem PySem.Spec PyProof.Rows L2
abbrev St := L2.St
inductive D where
 | non
 | bl (b : Bool)
 | int (i : Int)
 | str (x : Str)
 | tup (ds : List D)
 | lst (ds : List D)
 deriving Inhabited
mutual
def Has (K : W.Frag) (H : Hp) : D -> V -> Prop
 | .non, v => v = .non
 | .bl b, v => v = .bl b
 | .int i, v => v = .int i
 | .str x, v => v = .str x
 | .tup ds, v => ∃ a xs, v = .ref a /\ SqT K H a xs /\ ya K H ds xs
 | .lst ds, v => ∃ a xs, v = .ref a /\ SqL K H a xs /\ ya K H ds xs
def ya (K : W.Frag) (H : Hp) : List D -> List V -> Prop
 | [], xs => xs = []
 | d :: ds, xs => ∃ x r, xs = x :: r /\ Has K H d x /\ ya K H ds r
end
theorem zB {H : Hp} : yo H H := fun _ _ e => e
theorem uT {K : W.Frag} {H H' : Hp} {a : Addr} {xs : List V} (e : yo H H') (h : SqT K H a xs) : SqT K H' a xs := by
 rcases h with (h | ⟨o, h⟩) | h
 ·exact .inl (.inl (e _ _ h))
 ·exact .inl (.inr ⟨o, e _ _ h⟩)
 ·exact .inr h
section
variable {K : W.Frag} {H H' : Hp}
mutual
theorem Has.mono (s : yo H H') : ∀ {d : D} {v : V}, Has K H d v -> Has K H' d v
 | .non, _, h => by unfold Has at h ⊢; exact h
 | .bl _, _, h => by unfold Has at h ⊢; exact h
 | .int _, _, h => by unfold Has at h ⊢; exact h
 | .str _, _, h => by unfold Has at h ⊢; exact h
 | .tup ds, v, h => by
  unfold Has at h ⊢
  obtain ⟨a, xs, e, q, l⟩ := h
  exact ⟨a, xs, e, uT s q, ya.mono s l⟩
 | .lst ds, v, h => by
  unfold Has at h ⊢
  obtain ⟨a, xs, e, q, l⟩ := h
  exact ⟨a, xs, e, s.seq q, ya.mono s l⟩
theorem ya.mono (s : yo H H') : ∀ {ds : List D} {xs : List V}, ya K H ds xs -> ya K H' ds xs
 | [], _, h => by unfold ya at h ⊢; exact h
 | d :: ds, xs, h => by
  unfold ya at h ⊢
  obtain ⟨x, r, e, h1, h2⟩ := h
  exact ⟨x, r, e, Has.mono s h1, ya.mono s h2⟩
end
theorem Has.non_iff {v : V} : Has K H .non v ↔ v = .non := by unfold Has; rfl
theorem Has.bl_iff {b : Bool} {v : V} : Has K H (.bl b) v ↔ v = .bl b := by unfold Has; rfl
theorem Has.int_iff {i : Int} {v : V} : Has K H (.int i) v ↔ v = .int i := by unfold Has; rfl
theorem Has.str_iff {x : Str} {v : V} : Has K H (.str x) v ↔ v = .str x := by unfold Has; rfl
theorem Has.tup_iff {ds : List D} {v : V} : Has K H (.tup ds) v ↔ ∃ a xs, v = .ref a /\ SqT K H a xs /\ ya K H ds xs := by
 constructor
 ·intro h; unfold Has at h; exact h
 ·intro h; unfold Has; exact h
theorem Has.lst_iff {ds : List D} {v : V} : Has K H (.lst ds) v ↔ ∃ a xs, v = .ref a /\ SqL K H a xs /\ ya K H ds xs := by
 constructor
 ·intro h; unfold Has at h; exact h
 ·intro h; unfold Has; exact h
theorem ya.nil_iff {xs : List V} : ya K H [] xs ↔ xs = [] := by unfold ya; rfl
theorem ya.cons_iff {d : D} {ds : List D} {xs : List V} : ya K H (d :: ds) xs ↔ ∃ x r, xs = x :: r /\ Has K H d x /\ ya K H ds r := by
 constructor
 ·intro h; unfold ya at h; exact h
 ·intro h; unfold ya; exact h
theorem ya.nil : ya K H [] [] := ya.nil_iff.mpr rfl
theorem ya.cons {d : D} {ds : List D} {x : V} {xs : List V} (h : Has K H d x) (t : ya K H ds xs) : ya K H (d :: ds) (x :: xs) := ya.cons_iff.mpr ⟨x, xs, rfl, h, t⟩
theorem ya.length : ∀ {ds : List D} {xs : List V}, ya K H ds xs -> xs.length = ds.length
 | [], _, h => by rw [ya.nil_iff] at h; subst h; rfl
 | d :: ds, xs, h => by
  obtain ⟨x, r, e, _, h2⟩ := ya.cons_iff.mp h
  subst e
  simp [ya.length h2]
theorem ya.get : ∀ {ds : List D} {xs : List V} {i : Nat} {d : D}, ya K H ds xs -> ds[i]? = some d -> ∃ v, xs[i]? = some v /\ Has K H d v
 | [], _, _, _, _, e => by simp at e
 | d :: ds, xs, i, d', h, e => by
  obtain ⟨x, r, e', h1, h2⟩ := ya.cons_iff.mp h
  subst e'
  cases i with
  | zero => simp at e; subst e; exact ⟨x, rfl, h1⟩
  | succ i =>
   obtain ⟨v, q1, q2⟩ := ya.get (i := i) (d := d') h2 (by simpa using e)
   exact ⟨v, by simpa using q1, q2⟩
theorem ya.append : ∀ {ds es : List D} {xs ys : List V}, ya K H ds xs -> ya K H es ys -> ya K H (ds ++ es) (xs ++ ys)
 | [], _, _, _, h, h' => by rw [ya.nil_iff] at h; subst h; exact h'
 | d :: ds, es, xs, ys, h, h' => by
  obtain ⟨x, r, e, h1, h2⟩ := ya.cons_iff.mp h
  subst e
  exact .cons h1 (ya.append h2 h')
theorem ya.drop : ∀ {ds : List D} {xs : List V} (n : Nat), ya K H ds xs -> ya K H (ds.drop n) (xs.drop n)
 | _, _, 0, h => by simpa using h
 | [], _, n + 1, h => by rw [ya.nil_iff] at h; subst h; simpa using ya.nil
 | d :: ds, xs, n + 1, h => by
  obtain ⟨x, r, e, h1, h2⟩ := ya.cons_iff.mp h
  subst e
  exact ya.drop n h2
theorem ya.take : ∀ {ds : List D} {xs : List V} (n : Nat), ya K H ds xs -> ya K H (ds.take n) (xs.take n)
 | _, _, 0, h => by simpa using ya.nil
 | [], _, n + 1, h => by rw [ya.nil_iff] at h; subst h; simpa using ya.nil
 | d :: ds, xs, n + 1, h => by
  obtain ⟨x, r, e, h1, h2⟩ := ya.cons_iff.mp h
  subst e
  exact .cons h1 (ya.take n h2)
theorem ya.reverse {ds : List D} {xs : List V} (h : ya K H ds xs) : ya K H ds.reverse xs.reverse := by
 induction ds generalizing xs with
 | nil => rw [ya.nil_iff] at h; subst h; exact ya.nil
 | cons d ds ih =>
  obtain ⟨x, r, e, h1, h2⟩ := ya.cons_iff.mp h
  subst e
  rw [g2f, g2f]
  exact (ih h2).append (.cons h1 .nil)
theorem ya.ints : ∀ (ns : List Int), ya K H (ns.map D.int) (ns.map V.int)
 | [] => .nil
 | n :: ns => .cons (Has.int_iff.mpr rfl) (ya.ints ns)
end
inductive Slot where
 | no
 | fr (d : D)
 | ol (ds : List D)
 | oT (kvs : List (List Key × D))
 | oK (kvs : List (Key × D))
 deriving Inhabited
def Slot.own : Slot -> Bool
 | .ol _ => true
 | .oT _ => true
 | .oK _ => true
 | _ => false
abbrev Rho := List Slot
def KVs (K : W.Frag) (H : Hp) {κ : Type} : List (κ × D) -> List (κ × V) -> Prop := Paired fun p q => p.1 = q.1 /\ Has K H p.2 q.2
theorem KVs.mono {K : W.Frag} {H H' : Hp} {κ : Type} (s : yo H H') {l : List (κ × D)} {m : List (κ × V)} (h : KVs K H l m) : KVs K H' l m := Paired.mapP h fun _ _ z => ⟨z.1, Has.mono s z.2⟩
def Z1 (K : W.Frag) (H Hf : Hp) (a : Addr) : Slot -> Prop
 | .ol ds => ∃ xs, H a = some (.lst xs) /\ ya K Hf ds xs
 | .oT kvs => ∃ ws, H a = some (.dT ws) /\ KVs K Hf kvs ws
 | .oK kvs => ∃ ws, H a = some (.dK ws) /\ KVs K Hf kvs ws
 | _ => True
theorem Z1.mono {K : W.Frag} {H Hf H' Hf' : Hp} {a : Addr} {sl : Slot} (h : Z1 K H Hf a sl) (k : ∀ o, H a = some o -> H' a = some o) (s : yo Hf Hf') : Z1 K H' Hf' a sl := by
 cases sl with
 | no => trivial
 | fr d => trivial
 | ol ds => obtain ⟨xs, e, q⟩ := h; exact ⟨xs, k _ e, q.mono s⟩
 | oT kvs => obtain ⟨xs, e, q⟩ := h; exact ⟨xs, k _ e, KVs.mono s q⟩
 | oK kvs => obtain ⟨xs, e, q⟩ := h; exact ⟨xs, k _ e, KVs.mono s q⟩
theorem Z1.there {K : W.Frag} {H Hf : Hp} {a : Addr} {sl : Slot} (h : Z1 K H Hf a sl) (ow : sl.own = true) : ∃ o, H a = some o := by
 cases sl with
 | no => cases ow
 | fr d => cases ow
 | ol ds => obtain ⟨xs, e, q⟩ := h; exact ⟨_, e⟩
 | oT kvs => obtain ⟨xs, e, q⟩ := h; exact ⟨_, e⟩
 | oK kvs => obtain ⟨xs, e, q⟩ := h; exact ⟨_, e⟩
def Tp (o : HO) : Prop := ∃ ks : List Key, o = .tup (ks.map kV)
structure Rep (K : W.Frag) (H₀ Hf₀ : Hp) (σ : St) (ρ : Rho) (H Hf : Hp) : Prop where
 s0 : yo H₀ H
 sf : yo Hf H
 nf : ∀ b o, Hf b = some o -> Hf₀ b = some o \/ H₀ b = none \/ Tp o
 f0 : yo Hf₀ Hf
 len : ρ.length = σ.length
 fr : ∀ (i : Nat) (d : D), ρ[i]? = some (.fr d) -> ∃ v, σ[i]? = some (some v) /\ Has K Hf d v
 ow : ∀ (i : Nat) (sl : Slot), ρ[i]? = some sl -> sl.own = true -> ∃ a, σ[i]? = some (some (.ref a)) /\ Z1 K H Hf a sl /\ Hf a = none /\ H₀ a = none
 inj : ∀ (i j : Nat) (sl sl' : Slot) (a : Addr), ρ[i]? = some sl -> sl.own = true -> ρ[j]? = some sl' -> sl'.own = true -> σ[i]? = some (some (.ref a)) -> σ[j]? = some (some (.ref a)) -> i = j
theorem Z1.notTp {K : W.Frag} {H Hf H' : Hp} {a : Addr} {sl : Slot} {u : HO} (h : Z1 K H Hf a sl) (ow : sl.own = true) (k : ∀ o, H a = some o -> H' a = some o) (z : H' a = some u) (t : Tp u) : False := by
 obtain ⟨ks, rfl⟩ := t
 cases sl with
 | no => cases ow
 | fr d => cases ow
 | ol ds => obtain ⟨xs, e, q⟩ := h; have := (k _ e).symm.trans z; cases this
 | oT kvs => obtain ⟨xs, e, q⟩ := h; have := (k _ e).symm.trans z; cases this
 | oK kvs => obtain ⟨xs, e, q⟩ := h; have := (k _ e).symm.trans z; cases this
section
variable {K : W.Frag} {H₀ Hf₀ : Hp} {σ : St} {ρ : Rho} {H Hf H' Hf' : Hp}
theorem Rep.grow (R : Rep K H₀ Hf₀ σ ρ H Hf) (h1 : yo H H') (h2 : yo Hf Hf') (h3 : yo Hf' H') (h4 : ∀ b o, Hf' b = some o -> Hf b = some o \/ H b = none \/ Tp o) : Rep K H₀ Hf₀ σ ρ H' Hf' where
 s0 := R.s0.trans h1
 sf := h3
 nf := fun b o e => by
  rcases h4 b o e with q | q | q
  ·exact R.nf b o q
  ·exact .inr (.inl (R.s0.free q))
  ·exact .inr (.inr q)
 f0 := R.f0.trans h2
 len := R.len
 fr := fun i d e => by
  obtain ⟨v, q1, q2⟩ := R.fr i d e
  exact ⟨v, q1, q2.mono h2⟩
 ow := fun i sl e o => by
  obtain ⟨a, q1, q2, q3, q4⟩ := R.ow i sl e o
  refine ⟨a, q1, q2.mono (fun o e => h1 _ _ e) h2, ?_, q4⟩
  obtain ⟨ob, qo⟩ := q2.there o
  cases z : Hf' a with
  | none => rfl
  | some u =>
   rcases h4 a u z with y | y | y
   ·rw [q3] at y; cases y
   ·rw [qo] at y; cases y
   ·exact (q2.notTp o (fun o => h1 a o) (h3 _ _ z) y).elim
 inj := R.inj
theorem Rep.lay (R : Rep K H₀ Hf₀ σ ρ H Hf) {p : Addr} {o : HO} (hp : H p = none) : Rep K H₀ Hf₀ σ ρ (upd H p o) (upd Hf p o) := by
 have hfp : Hf p = none := R.sf.free hp
 refine R.grow (fun b u e => ?_) (fun b u e => ?_) (fun b u e => ?_) (fun b u e => ?_)
 ·rw [zE (zS e hp)]; exact e
 ·rw [zE (zS e hfp)]; exact e
 ·by_cases hb : b = p
  ·subst hb; rw [zz] at e ⊢; exact e
  ·rw [zE hb] at e ⊢; exact R.sf b u e
 ·by_cases hb : b = p
  ·subst hb; exact .inr (.inl hp)
  ·rw [zE hb] at e; exact .inl e
theorem Rep.layN (R : Rep K H₀ Hf₀ σ ρ H Hf) {p : Addr} {o : HO} (hp : H p = none) : Rep K H₀ Hf₀ σ ρ (upd H p o) Hf := by
 refine R.grow (fun b u e => ?_) zB (fun b u e => ?_) (fun b u e => .inl e)
 ·rw [zE (zS e hp)]; exact e
 ·rw [zE (zS (R.sf b u e) hp)]; exact R.sf b u e
theorem zM {p : Addr} {o : HO} (hp : H p = none) : yo H (upd H p o) := fun b u e => by rw [zE (zS e hp)]; exact e
theorem Rep.set (R : Rep K H₀ Hf₀ σ ρ H Hf) {d : D} {v : V} (i : Nat) (h : Has K Hf d v) : Rep K H₀ Hf₀ (σ.set i (some v)) (ρ.set i (.fr d)) H Hf where
 s0 := R.s0
 sf := R.sf
 nf := R.nf
 f0 := R.f0
 len := by simp [R.len]
 fr := fun j d' e => by
  rw [g1b] at e ⊢
  by_cases hj : i = j
  ·rw [if_pos hj] at e ⊢
   split at e
   ·cases e
    rename_i hl
    rw [R.len] at hl
    rw [if_pos hl]
    exact ⟨v, rfl, h⟩
   ·cases e
  ·rw [if_neg hj] at e ⊢
   exact R.fr j d' e
 ow := fun j sl e o => by
  rw [g1b] at e ⊢
  by_cases hj : i = j
  ·rw [if_pos hj] at e
   split at e
   ·cases e; cases o
   ·cases e
  ·rw [if_neg hj] at e ⊢
   exact R.ow j sl e o
 inj := fun j k sl sl' a e o e' o' z z' => by
  rw [g1b] at e e' z z'
  by_cases hj : i = j
  ·rw [if_pos hj] at e
   split at e
   ·cases e; cases o
   ·cases e
  ·by_cases hk : i = k
   ·rw [if_pos hk] at e'
    split at e'
    ·cases e'; cases o'
    ·cases e'
   ·rw [if_neg hj] at e z
    rw [if_neg hk] at e' z'
    exact R.inj j k sl sl' a e o e' o' z z'
theorem Rep.setOwn (R : Rep K H₀ Hf₀ σ ρ H Hf) {sl : Slot} {a : Addr} (i : Nat) (ho : sl.own = true) (h : Z1 K H Hf a sl) (hf : Hf a = none) (h0 : H₀ a = none)
  (fresh : ∀ (j : Nat) (sl' : Slot), ρ[j]? = some sl' -> sl'.own = true -> σ[j]? ≠ some (some (.ref a))) : Rep K H₀ Hf₀ (σ.set i (some (.ref a))) (ρ.set i sl) H Hf where
 s0 := R.s0
 sf := R.sf
 nf := R.nf
 f0 := R.f0
 len := by simp [R.len]
 fr := fun j d' e => by
  rw [g1b] at e ⊢
  by_cases hj : i = j
  ·rw [if_pos hj] at e
   split at e
   ·cases e; cases ho
   ·cases e
  ·rw [if_neg hj] at e ⊢
   exact R.fr j d' e
 ow := fun j sl' e o => by
  rw [g1b] at e ⊢
  by_cases hj : i = j
  ·rw [if_pos hj] at e ⊢
   split at e
   ·cases e
    rename_i hl
    rw [R.len] at hl
    rw [if_pos hl]
    exact ⟨a, rfl, h, hf, h0⟩
   ·cases e
  ·rw [if_neg hj] at e ⊢
   exact R.ow j sl' e o
 inj := fun j k s1 s2 b e o e' o' z z' => by
  rw [g1b] at e e' z z'
  by_cases hj : i = j
  ·by_cases hk : i = k
   ·omega
   ·rw [if_pos hj] at z
    rw [if_neg hk] at e' z'
    split at z
    ·cases z
     exact absurd z' (fresh k s2 e' o')
    ·cases z
  ·by_cases hk : i = k
   ·rw [if_pos hk] at z'
    rw [if_neg hj] at e z
    split at z'
    ·cases z'
     exact absurd z (fresh j s1 e o)
    ·cases z'
   ·rw [if_neg hj] at e z
    rw [if_neg hk] at e' z'
    exact R.inj j k s1 s2 b e o e' o' z z'
theorem Rep.updOwn (R : Rep K H₀ Hf₀ σ ρ H Hf) {sl sl' : Slot} {a : Addr} {o : HO} {i : Nat} (e : ρ[i]? = some sl) (ho : sl.own = true) (ea : σ[i]? = some (some (.ref a))) (ho' : sl'.own = true) (h : Z1 K (upd H a o) Hf a sl') :
  Rep K H₀ Hf₀ σ (ρ.set i sl') (upd H a o) Hf := by
 obtain ⟨a', q1, q2, q3, q4⟩ := R.ow i sl e ho
 rw [ea] at q1; cases q1
 have hil : i < ρ.length := (g0y.mp e).1
 refine ⟨fun b u z => ?_, fun b u z => ?_, R.nf, R.f0, by simp [R.len], fun j d z => ?_, fun j s1 z oz => ?_, fun j k s1 s2 b z oz z' oz' y y' => ?_⟩
 ·rw [zE (zS z q4)]; exact R.s0 b u z
 ·rw [zE (zS z q3)]; exact R.sf b u z
 ·rw [g1b] at z
  by_cases hj : i = j
  ·rw [if_pos hj, if_pos hil] at z
   cases z; cases ho'
  ·rw [if_neg hj] at z
   exact R.fr j d z
 ·rw [g1b] at z
  by_cases hj : i = j
  ·rw [if_pos hj, if_pos hil] at z
   cases z
   subst hj
   exact ⟨a, ea, h, q3, q4⟩
  ·rw [if_neg hj] at z
   obtain ⟨b, p1, p2, p3, p4⟩ := R.ow j s1 z oz
   refine ⟨b, p1, p2.mono (fun u q => ?_) zB, p3, p4⟩
   rw [zE]
   ·exact q
   ·rintro rfl
    exact hj (R.inj i j sl s1 b e ho z oz ea p1)
 ·have own_at : ∀ (j : Nat) (s1 : Slot), (ρ.set i sl')[j]? = some s1 -> s1.own = true -> ∃ s2, ρ[j]? = some s2 /\ s2.own = true := fun j s1 z oz => by
   rw [g1b] at z
   by_cases hj : i = j
   ·subst hj; exact ⟨sl, e, ho⟩
   ·rw [if_neg hj] at z; exact ⟨s1, z, oz⟩
  obtain ⟨t1, u1, v1⟩ := own_at j s1 z oz
  obtain ⟨t2, u2, v2⟩ := own_at k s2 z' oz'
  exact R.inj j k t1 t2 b u1 v1 u2 v2 y y'
theorem Rep.freeze (R : Rep K H₀ Hf₀ σ ρ H Hf) {ds : List D} {i : Nat} (e : ρ[i]? = some (.ol ds)) : ∃ Hf', yo Hf Hf' /\ Rep K H₀ Hf₀ σ (ρ.set i (.fr (.lst ds))) H Hf' := by
 obtain ⟨a, q1, ⟨xs, q2, q2'⟩, q3, q4⟩ := R.ow i _ e rfl
 have hil : i < ρ.length := (g0y.mp e).1
 have sm : yo Hf (upd Hf a (.lst xs)) := zM q3
 refine ⟨upd Hf a (.lst xs), sm, R.s0, fun b u z => ?_, fun b u z => ?_, R.f0.trans sm, by simp [R.len], fun j d z => ?_, fun j s1 z oz => ?_, fun j k s1 s2 b z oz z' oz' y y' => ?_⟩
 ·by_cases hb : b = a
  ·subst hb; rw [zz] at z; cases z; exact q2
  ·rw [zE hb] at z; exact R.sf b u z
 ·by_cases hb : b = a
  ·subst hb; exact .inr (.inl q4)
  ·rw [zE hb] at z; exact R.nf b u z
 ·rw [g1b] at z
  by_cases hj : i = j
  ·rw [if_pos hj, if_pos hil] at z
   cases z
   subst hj
   exact ⟨_, q1, Has.lst_iff.mpr ⟨a, xs, rfl, SqL.of zz, q2'.mono sm⟩⟩
  ·rw [if_neg hj] at z
   obtain ⟨v, p1, p2⟩ := R.fr j d z
   exact ⟨v, p1, p2.mono sm⟩
 ·rw [g1b] at z
  by_cases hj : i = j
  ·rw [if_pos hj, if_pos hil] at z
   cases z; cases oz
  ·rw [if_neg hj] at z
   obtain ⟨b, p1, p2, p3, p4⟩ := R.ow j s1 z oz
   refine ⟨b, p1, p2.mono (fun u q => q) sm, ?_, p4⟩
   rw [zE]
   ·exact p3
   ·rintro rfl
    exact hj (R.inj i j _ s1 b e rfl z oz q1 p1)
 ·have own_at : ∀ (j : Nat) (s1 : Slot), (ρ.set i (.fr (.lst ds)))[j]? = some s1 -> s1.own = true -> ρ[j]? = some s1 := fun j s1 z oz => by
   rw [g1b] at z
   by_cases hj : i = j
   ·rw [if_pos hj, if_pos hil] at z
    cases z; cases oz
   ·rw [if_neg hj] at z; exact z
  exact R.inj j k s1 s2 b (own_at j s1 z oz) oz (own_at k s2 z' oz') oz' y y'
end
end FL
namespace FL
open PySem PySem.Spec PyProof.Rows L2
abbrev FE := Rho -> Option D
abbrev FT := Rho -> Option Bool
abbrev FA := Rho -> Option (List D)
inductive Out where
 | nx (ρ : Rho)
 | rt (d : D)
 | bk (ρ : Rho)
 | ct (ρ : Rho)
abbrev FS := Rho -> Option Out
def j6 (K : W.Frag) (Hf : Hp) (σ : St) (ρ : Rho) (d : D) (v : V) : Prop := Has K Hf d v \/ ∃ (i : Nat) (ds : List D), d = .lst ds /\ ρ[i]? = some (.ol ds) /\ σ[i]? = some (some v)
theorem j6.mono {K : W.Frag} {Hf Hf' : Hp} {σ : St} {ρ : Rho} {d : D} {v : V} (h : j6 K Hf σ ρ d v) (s : yo Hf Hf') : j6 K Hf' σ ρ d v := h.imp (Has.mono s) id
def tF (K : W.Frag) (f : FE) : TE := fun σ H Q => ∃ H₀ Hf₀ ρ Hf d, Rep K H₀ Hf₀ σ ρ H Hf /\ f ρ = some d ∧
 ∀ v H' Hf', Rep K H₀ Hf₀ σ ρ H' Hf' -> yo H H' -> yo Hf Hf' -> Has K Hf' d v -> Q v H'
def tR (K : W.Frag) (f : FE) : TE := fun σ H Q => ∃ H₀ Hf₀ ρ Hf d, Rep K H₀ Hf₀ σ ρ H Hf /\ f ρ = some d ∧
 ∀ v H' Hf', Rep K H₀ Hf₀ σ ρ H' Hf' -> yo H H' -> yo Hf Hf' -> j6 K Hf' σ ρ d v -> Q v H'
def tN (K : W.Frag) (f : FA) : TE := fun σ H Q => ∃ H₀ Hf₀ ρ Hf ds, Rep K H₀ Hf₀ σ ρ H Hf /\ f ρ = some ds ∧
 ∀ a xs H' Hf', Rep K H₀ Hf₀ σ ρ H' Hf' -> yo H H' -> yo Hf Hf' -> ya K Hf' ds xs -> H' a = some (.lst xs) -> Hf' a = none -> H a = none -> Q (.ref a) H'
def tT (K : W.Frag) (f : FT) : TT := fun σ H Q => ∃ H₀ Hf₀ ρ Hf b, Rep K H₀ Hf₀ σ ρ H Hf /\ f ρ = some b ∧
 ∀ H' Hf', Rep K H₀ Hf₀ σ ρ H' Hf' -> yo H H' -> yo Hf Hf' -> Q b H'
def tAF (K : W.Frag) (f : FA) : TA := fun σ H Q => ∃ H₀ Hf₀ ρ Hf ds, Rep K H₀ Hf₀ σ ρ H Hf /\ f ρ = some ds ∧
 ∀ vs H' Hf', Rep K H₀ Hf₀ σ ρ H' Hf' -> yo H H' -> yo Hf Hf' -> ya K Hf' ds vs -> Q vs H'
def WD (K : W.Frag) (Hf : Hp) (σ : St) (ρ : Rho) : List D -> List V -> Prop := Paired (j6 K Hf σ ρ)
def tAR (K : W.Frag) (f : FA) : TA := fun σ H Q => ∃ H₀ Hf₀ ρ Hf ds, Rep K H₀ Hf₀ σ ρ H Hf /\ f ρ = some ds ∧
 ∀ vs H' Hf', Rep K H₀ Hf₀ σ ρ H' Hf' -> yo H H' -> yo Hf Hf' -> WD K Hf' σ ρ ds vs -> Q vs H'
def FH (K : W.Frag) (H₀ Hf₀ Hf : Hp) (D' : Ends) : Out -> Prop
 | .nx ρ' => ∀ σ' H' Hf', Rep K H₀ Hf₀ σ' ρ' H' Hf' -> yo Hf Hf' -> D'.nx σ' H'
 | .bk ρ' => ∀ σ' H' Hf', Rep K H₀ Hf₀ σ' ρ' H' Hf' -> yo Hf Hf' -> D'.bk σ' H'
 | .ct ρ' => ∀ σ' H' Hf', Rep K H₀ Hf₀ σ' ρ' H' Hf' -> yo Hf Hf' -> D'.ct σ' H'
 | .rt d => ∀ v σ' ρ' H' Hf', Rep K H₀ Hf₀ σ' ρ' H' Hf' -> yo Hf Hf' -> Has K Hf' d v -> D'.rt v H'
def tS (K : W.Frag) (F : FS) : TS := fun D' σ H => ∃ H₀ Hf₀ ρ Hf o, Rep K H₀ Hf₀ σ ρ H Hf /\ F ρ = some o /\ FH K H₀ Hf₀ Hf D' o
def DE (X : Cx) (e : Expr) (f : FE) : Prop := PE X e (tF X.K f)
def DR (X : Cx) (e : Expr) (f : FE) : Prop := PE X e (tR X.K f)
def DN (X : Cx) (e : Expr) (f : FA) : Prop := PE X e (tN X.K f)
def DT (X : Cx) (e : Expr) (f : FT) : Prop := PT X e (tT X.K f)
def DW (X : Cx) (e : Expr) (f : FT) : Prop := PW X e (tT X.K f)
def DA (X : Cx) (es : List Expr) (f : FA) : Prop := PA X es (tAF X.K f)
def DAR (X : Cx) (es : List Expr) (f : FA) : Prop := PA X es (tAR X.K f)
def DS (X : Cx) (st : Stmt) (F : FS) : Prop := PS X st (tS X.K F)
def DSs (X : Cx) (sts : List Stmt) (F : FS) : Prop := PSs X sts (tS X.K F)
section
variable {X : Cx} {e a b c : Expr} {es : List Expr} {f g h : FE} {fa ga : FA} {ft gt : FT} {pos : Pos} {t t' : TE}
theorem yW (h : PE X e t) (i : ∀ σ H Q, t' σ H Q -> t σ H Q) : PE X e t' := fun pins s σ H Q I hw => h pins s σ H Q I (i _ _ _ hw)
theorem VS {t t' : TT} (h : PT X e t) (i : ∀ σ H Q, t' σ H Q -> t σ H Q) : PT X e t' := fun pins s σ H Q I hw => h pins s σ H Q I (i _ _ _ hw)
theorem Hd {t t' : TT} (h : PW X e t) (i : ∀ σ H Q, t' σ H Q -> t σ H Q) : PW X e t' := fun wh pins s σ H Q I hw => h wh pins s σ H Q I (i _ _ _ hw)
theorem V0 {t t' : TA} (h : PA X es t) (i : ∀ σ H Q, t' σ H Q -> t σ H Q) : PA X es t' := fun p pins s σ H Q I hw => h p pins s σ H Q I (i _ _ _ hw)
theorem kl {st : Stmt} {t t' : TS} (h : PS X st t) (i : ∀ D σ H, t' D σ H -> t D σ H) : PS X st t' := fun pins s σ H D I hw => h pins s σ H D I (i _ _ _ hw)
theorem W0 {sts : List Stmt} {t t' : TS} (h : PSs X sts t) (i : ∀ D σ H, t' D σ H -> t D σ H) : PSs X sts t' := fun pins s σ H D I hw => h pins s σ H D I (i _ _ _ hw)
theorem DE.dr (he : DE X e f) : DR X e f := yW he fun σ H Q ⟨H₀, Hf₀, ρ, Hf, d, R, q, k⟩ => ⟨H₀, Hf₀, ρ, Hf, d, R, q, fun v H' Hf' R' s1 s2 hv => k v H' Hf' R' s1 s2 (.inl hv)⟩
def yI (fa : FA) : FE := fun ρ => (fa ρ).map D.lst
theorem DN.de (he : DN X e fa) : DE X e (yI fa) := yW he fun σ H Q ⟨H₀, Hf₀, ρ, Hf, d, R, q, k⟩ => by
 unfold yI at q
 cases hq : fa ρ with
 | none => rw [hq] at q; cases q
 | some ds =>
  rw [hq] at q; cases q
  refine ⟨H₀, Hf₀, ρ, Hf, ds, R, hq, fun a xs H' Hf' R' s1 s2 hl ha hn hh => ?_⟩
  have sm : yo Hf' (upd Hf' a (.lst xs)) := zM hn
  have h0 : H₀ a = none := R.s0.free hh
  refine k (.ref a) H' (upd Hf' a (.lst xs)) ?_ s1 (s2.trans sm) (Has.lst_iff.mpr ⟨a, xs, rfl, SqL.of zz, hl.mono sm⟩)
  refine ⟨R'.s0, fun b u z => ?_, fun b u z => ?_, R'.f0.trans sm, R'.len, fun i d z => ?_, fun i sl z o => ?_, R'.inj⟩
  ·by_cases hb : b = a
   ·subst hb; rw [zz] at z; cases z; exact ha
   ·rw [zE hb] at z; exact R'.sf b u z
  ·by_cases hb : b = a
   ·subst hb; exact .inr (.inl h0)
   ·rw [zE hb] at z; exact R'.nf b u z
  ·obtain ⟨v, p1, p2⟩ := R'.fr i d z
   exact ⟨v, p1, p2.mono sm⟩
  ·obtain ⟨b, p1, p2, p3, p4⟩ := R.ow i sl z o
   obtain ⟨b', r1, r2, r3, r4⟩ := R'.ow i sl z o
   rw [p1] at r1; cases r1
   refine ⟨b, p1, r2.mono (fun u q => q) sm, ?_, r4⟩
   rw [zE]
   ·exact r3
   ·rintro rfl
    obtain ⟨o', q'⟩ := p2.there o
    rw [q'] at hh; cases hh
def vF (i : Nat) : FE := fun ρ => match ρ[i]? with
 | some (.fr d) => some d
 | _ => none
def vR (i : Nat) : FE := fun ρ => match ρ[i]? with
 | some (.fr d) => some d
 | some (.ol ds) => some (.lst ds)
 | _ => none
theorem dv (i : Nat) {x : Str} (hN : X.N[i]? = some x := by rfl) (hv : Vis X.env.scope x := by first | exact Or.inl rfl | exact Or.inr (Or.inl rfl) | exact Or.inr (Or.inr rfl)) (hd : (x == ("__debug__" : Str)) = false := by decide)
  (hcd : (x == ("__classdict__" : Str)) = false := by decide) : DE X (.Name x pos) (vF i) :=
 yW (VX hN hv hd hcd) fun σ H Q ⟨H₀, Hf₀, ρ, Hf, d, R, q, k⟩ => by
  unfold vF at q
  split at q
  ·cases q
   rename_i e
   obtain ⟨v, e1, e2⟩ := R.fr i d e
   exact ⟨v, e1, k v H Hf R zB zB e2⟩
  ·cases q
theorem dvr (i : Nat) {x : Str} (hN : X.N[i]? = some x := by rfl) (hv : Vis X.env.scope x := by first | exact Or.inl rfl | exact Or.inr (Or.inl rfl) | exact Or.inr (Or.inr rfl)) (hd : (x == ("__debug__" : Str)) = false := by decide)
  (hcd : (x == ("__classdict__" : Str)) = false := by decide) : DR X (.Name x pos) (vR i) :=
 yW (VX hN hv hd hcd) fun σ H Q ⟨H₀, Hf₀, ρ, Hf, d, R, q, k⟩ => by
  unfold vR at q
  split at q
  ·cases q
   rename_i e
   obtain ⟨v, e1, e2⟩ := R.fr i d e
   exact ⟨v, e1, k v H Hf R zB zB (.inl e2)⟩
  ·cases q
   rename_i ds e
   obtain ⟨a, e1, e2, _⟩ := R.ow i _ e rfl
   exact ⟨.ref a, e1, k _ H Hf R zB zB (.inr ⟨i, ds, rfl, e, e1⟩)⟩
  ·cases q
def cF (d : D) : FE := fun _ => some d
theorem zg {i : Int} {j pos} : DE X (.Constant (.int i) j pos) (cF (.int i)) := yW Hq fun σ H Q ⟨H₀, Hf₀, ρ, Hf, d, R, q, k⟩ => by cases q; exact k _ _ _ R zB zB (Has.int_iff.mpr rfl)
theorem Fz {i : Bool} {j pos} : DE X (.Constant (.bool i) j pos) (cF (.bl i)) := yW Mj fun σ H Q ⟨H₀, Hf₀, ρ, Hf, d, R, q, k⟩ => by cases q; exact k _ _ _ R zB zB (Has.bl_iff.mpr rfl)
theorem ux {j pos} : DE X (.Constant .none j pos) (cF .non) := yW Dd fun σ H Q ⟨H₀, Hf₀, ρ, Hf, d, R, q, k⟩ => by cases q; exact k _ _ _ R zB zB (Has.non_iff.mpr rfl)
theorem GW {x : Str} {j pos} : DE X (.Constant (.str x) j pos) (cF (.str x)) := yW C8 fun σ H Q ⟨H₀, Hf₀, ρ, Hf, d, R, q, k⟩ => by cases q; exact k _ _ _ R zB zB (Has.str_iff.mpr rfl)
def KQ : D -> Option V
 | .non => some .non
 | .bl b => some (.bl b)
 | .int i => some (.int i)
 | .str x => some (.str x)
 | _ => none
theorem HE {x : Str} {d : D} {v : V} {u : Value} {pos : Pos} (hg : Gl X x) (hm : X.mg x = some u) (hs : KQ d = some v) (r : xU v u) (hd : (x == ("__debug__" : Str)) = false := by decide) : DE X (.Name x pos) (cF d) :=
 yW (W2 hg hm r hd) fun σ H Q ⟨H₀, Hf₀, ρ, Hf, d', R, q, k⟩ => by
  cases q
  refine k _ _ _ R zB zB ?_
  cases d <;> cases hs
  ·exact Has.non_iff.mpr rfl
  ·exact Has.bl_iff.mpr rfl
  ·exact Has.int_iff.mpr rfl
  ·exact Has.str_iff.mpr rfl
def zc (φ : D -> D -> Option D) (f g : FE) : FE := fun ρ => (f ρ).bind fun x => (g ρ).bind fun y => φ x y
def OpD (X : Cx) (r : R2) (φ : D -> D -> Option D) : Prop :=
 ∀ (σ : St) (ρ : Rho) (H₀ Hf₀ H Hf : Hp) (x y : V) (dx dy d : D) (Q : VK), Rep X.K H₀ Hf₀ σ ρ H Hf -> j6 X.K Hf σ ρ dx x -> j6 X.K Hf σ ρ dy y -> φ dx dy = some d →
  (∀ v H' Hf', Rep X.K H₀ Hf₀ σ ρ H' Hf' -> yo H H' -> yo Hf Hf' -> Has X.K Hf' d v -> Q v H') -> r x y H Q
theorem VH {r : R2} {φ : D -> D -> Option D} (hφ : OpD X r φ) (σ : St) (H : Hp) (Q : VK) (hh : tF X.K (zc φ f g) σ H Q) : tOp r (tR X.K f) (tR X.K g) σ H Q := by
 obtain ⟨H₀, Hf₀, ρ, Hf, d, R, q, k⟩ := hh
 unfold zc at q
 cases hf : f ρ with
 | none => rw [hf] at q; cases q
 | some dx =>
  cases hg : g ρ with
  | none => rw [hf, hg] at q; cases q
  | some dy =>
   rw [hf, hg] at q
   refine ⟨H₀, Hf₀, ρ, Hf, dx, R, hf, fun v H1 Hf1 R1 s1 t1 h1 => ⟨H₀, Hf₀, ρ, Hf1, dy, R1, hg, fun u H2 Hf2 R2 s2 t2 h2 => ?_⟩⟩
   exact hφ σ ρ H₀ Hf₀ H2 Hf2 v u dx dy d Q R2 (h1.mono t2) h2 q fun w' H3 Hf3 R3 s3 t3 h3 => k w' H3 Hf3 R3 ((s1.trans s2).trans s3) ((t1.trans t2).trans t3) h3
theorem Cd {op : Operator} {r : R2} {φ : D -> D -> Option D} (ho : OpR X (binaryOp op) r) (hφ : OpD X r φ) (ha : DR X a f) (hb : DR X b g) : DE X (.BinOp a op b pos) (zc φ f g) :=
 yW (C9 ho ha hb) (VH hφ)
theorem GX {op : CmpOp} {r : R2} {φ : D -> D -> Option D} (ho : OpR X (compareOp op) r) (hφ : OpD X r φ) (ha : DR X a f) (hb : DR X b g) (hm : behindInMarks op b = false) : DE X (.Compare a [op] [b] pos) (zc φ f g) :=
 yW (Bl ho ha hb hm) (VH hφ)
theorem MD {r : R2} {φ : D -> D -> Option D} (ho : IxR X r) (hφ : OpD X r φ) (ha : DR X a f) (hb : DR X b g) (hs : Vz b) : DE X (.Subscript a b pos) (zc φ f g) :=
 yW (Bk ho ha hb hs) (VH hφ)
section
variable {K : W.Frag} {H₀ Hf₀ : Hp} {σ : St} {ρ : Rho} {H Hf : Hp} {v : V}
theorem j6.int {i : Int} (h : j6 K Hf σ ρ (.int i) v) : v = .int i := by
 rcases h with h | ⟨_, _, e, _⟩
 ·exact Has.int_iff.mp h
 ·cases e
theorem j6.bl {i : Bool} (h : j6 K Hf σ ρ (.bl i) v) : v = .bl i := by
 rcases h with h | ⟨_, _, e, _⟩
 ·exact Has.bl_iff.mp h
 ·cases e
theorem j6.str {i : Str} (h : j6 K Hf σ ρ (.str i) v) : v = .str i := by
 rcases h with h | ⟨_, _, e, _⟩
 ·exact Has.str_iff.mp h
 ·cases e
theorem j6.non (h : j6 K Hf σ ρ .non v) : v = .non := by
 rcases h with h | ⟨_, _, e, _⟩
 ·exact Has.non_iff.mp h
 ·cases e
theorem j6.tup {ds : List D} (h : j6 K Hf σ ρ (.tup ds) v) (R : Rep K H₀ Hf₀ σ ρ H Hf) : ∃ a xs, v = .ref a /\ SqT K H a xs /\ ya K Hf ds xs := by
 rcases h with h | ⟨_, _, e, _⟩
 ·obtain ⟨a, xs, e, q, l⟩ := Has.tup_iff.mp h
  exact ⟨a, xs, e, uT R.sf q, l⟩
 ·cases e
theorem j6.lst {ds : List D} (h : j6 K Hf σ ρ (.lst ds) v) (R : Rep K H₀ Hf₀ σ ρ H Hf) : ∃ a xs, v = .ref a /\ SqL K H a xs /\ ya K Hf ds xs := by
 rcases h with h | ⟨i, ds', e, e1, e2⟩
 ·obtain ⟨a, xs, e, q, l⟩ := Has.lst_iff.mp h
  exact ⟨a, xs, e, R.sf.seq q, l⟩
 ·cases e
  obtain ⟨a, p1, ⟨xs, p2, p3⟩, _⟩ := R.ow i _ e1 rfl
  rw [e2] at p1; cases p1
  exact ⟨a, xs, rfl, SqL.of p2, p3⟩
end
def iiD (φ : Int -> Int -> Option D) : D -> D -> Option D
 | .int i, .int j => φ i j
 | _, _ => none
theorem Ud {φ : Int -> Int -> Option D} {x y d : D} (h : iiD φ x y = some d) : ∃ i j, x = .int i /\ y = .int j /\ φ i j = some d := by
 cases x <;> cases y <;> first | cases h | exact ⟨_, _, rfl, rfl, h⟩
theorem Ue {K : W.Frag} {H : Hp} {d : D} {v : V} (h : KQ d = some v) : Has K H d v := by
 cases d <;> cases h
 ·exact Has.non_iff.mpr rfl
 ·exact Has.bl_iff.mpr rfl
 ·exact Has.int_iff.mpr rfl
 ·exact Has.str_iff.mpr rfl
theorem V2 {C : Int -> Int -> Prop} {gv : Int -> Int -> V} {φ : Int -> Int -> Option D} (h : ∀ i j d, φ i j = some d -> C i j /\ KQ d = some (gv i j)) : OpD X (rI C gv) (iiD φ) := by
 intro σ ρ H₀ Hf₀ H Hf x y dx dy d Q R hx hy hφ k
 obtain ⟨i, j, rfl, rfl, hd⟩ := Ud hφ
 obtain ⟨c, s⟩ := h i j d hd
 exact ⟨i, j, hx.int, hy.int, c, k _ _ _ R zB zB (Ue s)⟩
theorem Zn {gv : Int -> Int -> V} {φ : Int -> Int -> Option D} (h : ∀ i j d, φ i j = some d -> KQ d = some (gv i j)) : OpD X (rI0 gv) (iiD φ) := by
 intro σ ρ H₀ Hf₀ H Hf x y dx dy d Q R hx hy hφ k
 obtain ⟨i, j, rfl, rfl, hd⟩ := Ud hφ
 exact ⟨i, j, hx.int, hy.int, k _ _ _ R zB zB (Ue (h i j d hd))⟩
end
def big : Nat := 2 ^ 8000
theorem Xd {i : Int} (h : i.natAbs < big) : Builtin.Int.intBits i <= 8001 := by
 unfold Builtin.Int.intBits
 split
 ·exact g2e _
 ·have : i.natAbs.log2 < 8000 := by
   rcases Nat.eq_zero_or_pos i.natAbs with h0 | hp
   ·rw [h0]; decide
   ·exact (Nat.log2_lt (Nat.ne_of_gt hp)).mpr h
  omega
def Qo (i j : Int) : Prop := i.natAbs < 2 ^ 64 \/ j.natAbs < 2 ^ 64 \/ (i.natAbs < big /\ j.natAbs < big)
instance (i j : Int) : Decidable (Qo i j) := by unfold Qo; exact inferInstance
theorem Qo.ok {i j : Int} (h : Qo i j) : IntMulOk i j := by
 rcases h with h | h | ⟨h1, h2⟩
 ·exact .of_left (intBits_le_64 (by omega) (by omega))
 ·exact .of_right (intBits_le_64 (by omega) (by omega))
 ·exact IntMulOk.of_le (Xd h1) (Xd h2) (by decide)
def CB (j : Int) : Prop := 0 < j /\ j < 2 ^ 64
instance (j : Int) : Decidable (CB j) := by unfold CB; exact inferInstance
def Cr (i j : Int) : Prop := 0 <= j /\ j <= 1000 /\ i.natAbs < big
instance (i j : Int) : Decidable (Cr i j) := by unfold Cr; exact inferInstance
section
variable {X : Cx} {e a b c : Expr} {es : List Expr} {f g h : FE} {fa ga : FA} {ft gt : FT} {pos : Pos} {t t' : TE}
theorem Jh : OpR X (binaryOp .Mult) (rI Qo fun i j => .int (i * j)) := opI fun _ _ _ _ _ _ _ hc q => mul_int q hc.ok
theorem K9 : OpR X (binaryOp .FloorDiv) (rI (fun _ j => CB j) fun i j => .int (i / j)) := opI fun i j _ _ _ _ _ hc q => by
 have h1 : (0 : Int) < j := hc.1
 have h2 : j < 2 ^ 64 := hc.2
 refine floordiv_int (by omega) (by rw [Int.fdiv_eq_ediv_of_nonneg i (by omega)]; exact q) (.inl (PyProof.noPylong_of_log2 ?_))
 have hn : j.natAbs < 2 ^ 64 := by omega
 have : j.natAbs.log2 < 64 := (Nat.log2_lt (by omega)).mpr hn
 omega
theorem Bn : OpR X (binaryOp .Pow) (rI Cr fun i j => .int (i ^ j.toNat)) := opI fun i j _ _ _ _ _ hc q => by
 obtain ⟨h1, h2, h3⟩ := hc
 refine pow_int h1 ?_ q
 have hb := Xd h3
 have : (Builtin.Int.intBits i : Int) * j <= 8001 * 1000 := Int.mul_le_mul (by omega) h2 h1 (by decide)
 exact Int.le_trans this (by decide)
def wJ : D -> D -> Option D := iiD fun i j => if Qo i j then some (.int (i * j)) else none
def Ky : D -> D -> Option D := iiD fun i j => some (.int (i - j))
def qQ : D -> D -> Option D := iiD fun i j => if 0 < j then some (.int (i % j)) else none
def qU : D -> D -> Option D := iiD fun i j => if CB j then some (.int (i / j)) else none
def Cw : D -> D -> Option D := iiD fun i j => if Cr i j then some (.int (i ^ j.toNat)) else none
theorem Jk : OpD X (rI Qo fun i j => .int (i * j)) wJ := V2 fun i j d q => by
 split at q
 ·cases q; exact ⟨by assumption, rfl⟩
 ·cases q
theorem Bu : OpD X (rI0 fun i j => .int (i - j)) Ky := Zn fun i j d q => by cases q; rfl
theorem Bw : OpD X (rI (fun _ j => 0 < j) fun i j => .int (i % j)) qQ := V2 fun i j d q => by
 split at q
 ·cases q; exact ⟨by assumption, rfl⟩
 ·cases q
theorem Ge : OpD X (rI (fun _ j => CB j) fun i j => .int (i / j)) qU := V2 fun i j d q => by
 split at q
 ·cases q; exact ⟨by assumption, rfl⟩
 ·cases q
theorem Bv : OpD X (rI Cr fun i j => .int (i ^ j.toNat)) Cw := V2 fun i j d q => by
 split at q
 ·cases q; exact ⟨by assumption, rfl⟩
 ·cases q
theorem Kh (ha : DR X a f) (hb : DR X b g) : DE X (.BinOp a .Sub b pos) (zc Ky f g) := Cd Hr Bu ha hb
theorem x4 (ha : DR X a f) (hb : DR X b g) : DE X (.BinOp a .Mult b pos) (zc wJ f g) := Cd Jh Jk ha hb
theorem uy (ha : DR X a f) (hb : DR X b g) : DE X (.BinOp a .Mod b pos) (zc qQ f g) := Cd Dj Bw ha hb
theorem kz (ha : DR X a f) (hb : DR X b g) : DE X (.BinOp a .FloorDiv b pos) (zc qU f g) := Cd K9 Ge ha hb
theorem Fc (ha : DR X a f) (hb : DR X b g) : DE X (.BinOp a .Pow b pos) (zc Cw f g) := Cd Bn Bv ha hb
def NL : D -> D -> Option D
 | .int i, .int j => some (.int (i + j))
 | .str x, .str y => if x.length + y.length <= sizeLine then some (.str (x ++ y)) else none
 | .lst xs, .lst ys => if xs.length + ys.length <= sizeLine then some (.lst (xs ++ ys)) else none
 | .tup (x :: xs), .tup ys => if xs.length + 1 + ys.length <= sizeLine then some (.tup (x :: xs ++ ys)) else none
 | _, _ => none
def y0 (φ : D -> Option D) (f : FE) : FE := fun ρ => (f ρ).bind φ
def qJ : D -> Option D
 | .int i => some (.int (-i))
 | _ => none
theorem vE (ha : DR X a f) : DE X (.UnaryOp .USub a pos) (y0 qJ f) :=
 yW (Mi CC ha) fun σ H Q ⟨H₀, Hf₀, ρ, Hf, d, R, q, k⟩ => by
  unfold y0 at q
  cases hf : f ρ with
  | none => rw [hf] at q; cases q
  | some x =>
   rw [hf] at q
   cases x <;> try cases q
   exact ⟨H₀, Hf₀, ρ, Hf, _, R, hf, fun v H1 Hf1 R1 s1 t1 h1 => ⟨_, h1.int, k _ _ _ R1 s1 t1 (Has.int_iff.mpr rfl)⟩⟩
def ltD : D -> D -> Option D := iiD fun i j => some (.bl (decide (i < j)))
def leD : D -> D -> Option D := iiD fun i j => some (.bl (decide (i <= j)))
def gtD : D -> D -> Option D := iiD fun i j => some (.bl (decide (j < i)))
def geD : D -> D -> Option D := iiD fun i j => some (.bl (decide (j <= i)))
theorem Yd : OpD X (rI0 fun i j => .bl (decide (i < j))) ltD := Zn fun i j d q => by cases q; rfl
theorem Ye : OpD X (rI0 fun i j => .bl (decide (i <= j))) leD := Zn fun i j d q => by cases q; rfl
theorem Ht : OpD X (rI0 fun i j => .bl (decide (j < i))) gtD := Zn fun i j d q => by cases q; rfl
theorem Dq : OpD X (rI0 fun i j => .bl (decide (j <= i))) geD := Zn fun i j d q => by cases q; rfl
theorem MF (ha : DR X a f) (hb : DR X b g) : DE X (.Compare a [.Gt] [b] pos) (zc gtD f g) := GX Dl Ht ha hb (u5 _)
def isD (neg : Bool) : D -> D -> Option D := fun x y => match y with
 | .non => match x with
  | .non => some (.bl (!neg))
  | _ => some (.bl neg)
 | _ => none
theorem Ug {K : W.Frag} {Hf : Hp} {σ : St} {ρ : Rho} {x : D} {v : V} (h : j6 K Hf σ ρ x v) (R : ∃ H₀ Hf₀ H, Rep K H₀ Hf₀ σ ρ H Hf) : decide (v = V.non) = (match x with | .non => true | _ => false) := by
 obtain ⟨H₀, Hf₀, H, R⟩ := R
 cases x with
 | non => cases h.non; rfl
 | bl b => cases h.bl; rfl
 | int b => cases h.int; rfl
 | str b => cases h.str; rfl
 | tup ds => obtain ⟨a, xs, rfl, _⟩ := h.tup R; rfl
 | lst ds => obtain ⟨a, xs, rfl, _⟩ := h.lst R; rfl
theorem Dp : OpD X (fun x y H Q => y = .non /\ Q (.bl (decide (x = .non))) H) (isD false) := by
 intro σ ρ H₀ Hf₀ H Hf x y dx dy d Q R hx hy hφ k
 cases dy <;> try cases hφ
 have e := Ug hx ⟨_, _, _, R⟩
 refine ⟨hy.non, ?_⟩
 rw [e]
 cases dx <;> cases hφ <;> exact k _ _ _ R zB zB (Has.bl_iff.mpr rfl)
theorem Jm : OpD X (fun x y H Q => y = .non /\ Q (.bl (!decide (x = .non))) H) (isD true) := by
 intro σ ρ H₀ Hf₀ H Hf x y dx dy d Q R hx hy hφ k
 cases dy <;> try cases hφ
 have e := Ug hx ⟨_, _, _, R⟩
 refine ⟨hy.non, ?_⟩
 rw [e]
 cases dx <;> cases hφ <;> exact k _ _ _ R zB zB (Has.bl_iff.mpr rfl)
def ixD : D -> D -> Option D
 | .tup ds, .int i => atI ds i
 | .lst ds, .int i => atI ds i
 | .str z, .int i => if z.length <= sizeLine then (atI z.cps.toList i).map fun c => .str ⟨#[c]⟩ else none
 | _, _ => none
theorem ya.atI {K : W.Frag} {H : Hp} {ds : List D} {xs : List V} {i : Int} {d : D} (h : ya K H ds xs) (e : L2.atI ds i = some d) : ∃ v, L2.atI xs i = some v /\ Has K H d v := by
 unfold L2.atI at e ⊢
 rw [h.length]
 cases hj : ixN ds.length i with
 | none => rw [hj] at e; cases e
 | some j =>
  rw [hj] at e
  exact h.get e
theorem Jl : OpD X (rIx X.K) ixD := by
 intro σ ρ H₀ Hf₀ H Hf x y dx dy d Q R hx hy hφ k
 unfold ixD at hφ
 split at hφ
 ·obtain ⟨a, xs, rfl, qa, la⟩ := hx.tup R
  obtain ⟨v, e1, e2⟩ := la.atI hφ
  exact .inr (.inl ⟨a, xs, _, v, rfl, hy.int, qa, e1, k _ _ _ R zB zB e2⟩)
 ·obtain ⟨a, xs, rfl, qa, la⟩ := hx.lst R
  obtain ⟨v, e1, e2⟩ := la.atI hφ
  exact .inl ⟨a, xs, _, v, rfl, hy.int, qa, e1, k _ _ _ R zB zB e2⟩
 ·split at hφ
  ·rename_i z i hz
   cases e : atI z.cps.toList i with
   | none => rw [e] at hφ; cases hφ
   | some c =>
    rw [e] at hφ
    cases hφ
    exact .inr (.inr ⟨z, i, c, hx.str, hy.int, hz, e, k _ _ _ R zB zB (Has.str_iff.mpr rfl)⟩)
  ·cases hφ
 ·cases hφ
theorem yY (ha : DR X a f) (hb : DR X b g) (hs : Vz b := by intro _ _; rfl) : DE X (.Subscript a b pos) (zc ixD f g) := MD JR Jl ha hb hs
def zu : FA := fun _ => some []
def zb (f : FE) (g : FA) : FA := fun ρ => (f ρ).bind fun x => (g ρ).bind fun xs => some (x :: xs)
theorem j0 {f : FE} {g : FA} {ρ : Rho} {l : List D} (h : zb f g ρ = some l) : ∃ x xs, f ρ = some x /\ g ρ = some xs /\ l = x :: xs := by
 unfold zb at h
 cases hf : f ρ with
 | none => rw [hf] at h; cases h
 | some x =>
  cases hg : g ρ with
  | none => rw [hf, hg] at h; cases h
  | some xs => rw [hf, hg] at h; cases h; exact ⟨x, xs, rfl, rfl, rfl⟩
theorem zk : DA X [] zu := V0 xp fun σ H Q ⟨H₀, Hf₀, ρ, Hf, d, R, q, k⟩ => by cases q; exact k _ _ _ R zB zB .nil
theorem za (ha : DE X e f) (hr : DA X es fa) (hs : starEach (e :: es) X.env = (false, eval e X.env) :: starEach es X.env := by rfl) : DA X (e :: es) (zb f fa) :=
 V0 (z5 ha hr hs) fun σ H Q ⟨H₀, Hf₀, ρ, Hf, d, R, q, k⟩ => by
  obtain ⟨x, xs, e1, e2, rfl⟩ := j0 q
  exact ⟨H₀, Hf₀, ρ, Hf, x, R, e1, fun v H1 Hf1 R1 s1 t1 h1 => ⟨H₀, Hf₀, ρ, Hf1, xs, R1, e2, fun vs H2 Hf2 R2 s2 t2 h2 => k _ _ _ R2 (s1.trans s2) (t1.trans t2) (.cons (h1.mono t2) h2)⟩⟩
theorem zU : DAR X [] zu := V0 xp fun σ H Q ⟨H₀, Hf₀, ρ, Hf, d, R, q, k⟩ => by cases q; exact k _ _ _ R zB zB .nil
theorem zx (ha : DR X e f) (hr : DAR X es fa) (hs : starEach (e :: es) X.env = (false, eval e X.env) :: starEach es X.env := by rfl) : DAR X (e :: es) (zb f fa) :=
 V0 (z5 ha hr hs) fun σ H Q ⟨H₀, Hf₀, ρ, Hf, d, R, q, k⟩ => by
  obtain ⟨x, xs, e1, e2, rfl⟩ := j0 q
  exact ⟨H₀, Hf₀, ρ, Hf, x, R, e1, fun v H1 Hf1 R1 s1 t1 h1 => ⟨H₀, Hf₀, ρ, Hf1, xs, R1, e2, fun vs H2 Hf2 R2 s2 t2 h2 => k _ _ _ R2 (s1.trans s2) (t1.trans t2) (.cons (h1.mono t2) h2)⟩⟩
def tupF (g : FA) : FE := fun ρ => (g ρ).bind fun xs => if xs.length <= sizeLine then some (.tup xs) else none
theorem xq {x1} (h : DA X es fa) : DE X (.Tuple es x1 pos) (tupF fa) :=
 yW (C7 h) fun σ H Q ⟨H₀, Hf₀, ρ, Hf, d, R, q, k⟩ => by
  unfold tupF at q
  cases hg : fa ρ with
  | none => rw [hg] at q; cases q
  | some xs =>
   rw [hg] at q
   simp only [g0a] at q
   split at q
   ·cases q
    rename_i hl
    refine ⟨H₀, Hf₀, ρ, Hf, xs, R, hg, fun vs H1 Hf1 R1 s1 t1 h1 => ⟨by rw [h1.length]; exact hl, fun p hp => ?_⟩⟩
    have sm := zM (o := .tup vs) (R1.sf.free hp)
    exact k _ _ _ (R1.lay hp) (s1.trans (zM hp)) (t1.trans sm) (Has.tup_iff.mpr ⟨p, vs, rfl, SqT.of zz, h1.mono sm⟩)
   ·cases q
def Yi (g : FA) : FA := fun ρ => (g ρ).bind fun xs => if xs.length <= sizeLine then some xs else none
theorem uS (h : DA X es fa) : DN X (.List es pos) (Yi fa) :=
 yW (Ho h) fun σ H Q ⟨H₀, Hf₀, ρ, Hf, d, R, q, k⟩ => by
  unfold Yi at q
  cases hg : fa ρ with
  | none => rw [hg] at q; cases q
  | some xs =>
   rw [hg] at q
   simp only [g0a] at q
   split at q
   ·cases q
    rename_i hl
    refine ⟨H₀, Hf₀, ρ, Hf, _, R, hg, fun vs H1 Hf1 R1 s1 t1 h1 => ⟨by rw [h1.length]; exact hl, fun p hp => ?_⟩⟩
    exact k _ _ _ _ (R1.layN hp) (s1.trans (zM hp)) t1 h1 zz (R1.sf.free hp) (s1.free hp)
   ·cases q
def blF (f : FE) : FT := fun ρ => (f ρ).bind fun | .bl b => some b | _ => none
theorem Xc {f : FE} {ρ : Rho} {b : Bool} (h : blF f ρ = some b) : f ρ = some (.bl b) := by
 unfold blF at h
 cases hf : f ρ with
 | none => rw [hf] at h; cases h
 | some x => rw [hf] at h; cases x <;> cases h; rfl
theorem jv (h : DR X e f) (he : ∀ whole, isTrue e X.env whole = (do let v ← whole; standAt e.pos; holding [v] (truthy v)) := by intro _; rfl) : DT X e (blF f) :=
 VS (He h he) fun σ H Q ⟨H₀, Hf₀, ρ, Hf, d, R, q, k⟩ => ⟨H₀, Hf₀, ρ, Hf, _, R, Xc q, fun v H1 Hf1 R1 s1 t1 h1 => ⟨d, h1.bl, k _ _ R1 s1 t1⟩⟩
theorem xw {op : CmpOp} {r : R2} {φ : D -> D -> Option D} (ho : OpR X (compareOp op) r) (hφ : OpD X r φ) (ha : DR X a f) (hb : DR X b g) (hm : behindInMarks op b = false) : DT X (.Compare a [op] [b] pos) (blF (zc φ f g)) :=
 VS (Q7 ho ha hb hm) fun σ H Q ⟨H₀, Hf₀, ρ, Hf, d, R, q, k⟩ => VH hφ σ H _ ⟨H₀, Hf₀, ρ, Hf, _, R, Xc q, fun v H1 Hf1 R1 s1 t1 h1 => ⟨d, Has.bl_iff.mp h1, k _ _ R1 s1 t1⟩⟩
theorem GP (ha : DR X a f) (hb : DR X b g) : DT X (.Compare a [.Lt] [b] pos) (blF (zc ltD f g)) := xw UQ Yd ha hb (u5 _)
theorem D6 (ha : DR X a f) (hb : DR X b g) : DT X (.Compare a [.LtE] [b] pos) (blF (zc leD f g)) := xw UR Ye ha hb (u5 _)
theorem GR (ha : DR X a f) (hb : DR X b g) : DT X (.Compare a [.Gt] [b] pos) (blF (zc gtD f g)) := xw Dl Ht ha hb (u5 _)
theorem Kd (ha : DR X a f) (hb : DR X b g) : DT X (.Compare a [.GtE] [b] pos) (blF (zc geD f g)) := xw Ml Dq ha hb (u5 _)
theorem Ca (ha : DR X a f) (hb : DR X b g) : DT X (.Compare a [.Is] [b] pos) (blF (zc (isD false) f g)) := xw Dk Dp ha hb (u5 _)
theorem GQ (ha : DR X a f) (hb : DR X b g) : DT X (.Compare a [.IsNot] [b] pos) (blF (zc (isD true) f g)) := xw Bo Jm ha hb (u5 _)
def Vx (f g : FT) : FT := fun ρ => (f ρ).bind fun b => if b = true then g ρ else some false
def orT (f g : FT) : FT := fun ρ => (f ρ).bind fun b => if b = true then some true else g ρ
def WE (f : FT) : FT := fun ρ => (f ρ).bind fun b => some (!b)
variable {rest : List Expr}
theorem vo {α : Type} {f : Rho -> Option Bool} {k : Bool -> Option α} {ρ : Rho} {r : α} (h : (f ρ).bind k = some r) : ∃ b, f ρ = some b /\ k b = some r := by
 cases hf : f ρ with
 | none => rw [hf] at h; cases h
 | some x => rw [hf] at h; exact ⟨x, rfl, h⟩
theorem jX (ha : DT X a ft) : DW X (.BoolOp .And [a] pos) ft := Be ha
theorem Yn (ha : DT X a ft) : DW X (.BoolOp .Or [a] pos) ft := C5 ha
theorem kv (ha : DT X a ft) (hb : DW X (.BoolOp .And (b :: rest) pos) gt) : DW X (.BoolOp .And (a :: b :: rest) pos) (Vx ft gt) :=
 Hd (C6 ha hb) fun σ H Q ⟨H₀, Hf₀, ρ, Hf, d, R, q, k⟩ => by
  obtain ⟨b, e1, e2⟩ := vo q
  refine ⟨H₀, Hf₀, ρ, Hf, b, R, e1, fun H1 Hf1 R1 s1 t1 => ?_⟩
  cases b with
  | true => exact Gy ⟨H₀, Hf₀, ρ, Hf1, d, R1, e2, fun H2 Hf2 R2 s2 t2 => k _ _ R2 (s1.trans s2) (t1.trans t2)⟩
  | false => cases e2; exact Gz (k _ _ R1 s1 t1)
theorem ZY (ha : DT X a ft) (hb : DW X (.BoolOp .Or (b :: rest) pos) gt) : DW X (.BoolOp .Or (a :: b :: rest) pos) (orT ft gt) :=
 Hd (Mg ha hb) fun σ H Q ⟨H₀, Hf₀, ρ, Hf, d, R, q, k⟩ => by
  obtain ⟨b, e1, e2⟩ := vo q
  refine ⟨H₀, Hf₀, ρ, Hf, b, R, e1, fun H1 Hf1 R1 s1 t1 => ?_⟩
  cases b with
  | false => exact Gz ⟨H₀, Hf₀, ρ, Hf1, d, R1, e2, fun H2 Hf2 R2 s2 t2 => k _ _ R2 (s1.trans s2) (t1.trans t2)⟩
  | true => cases e2; exact Gy (k _ _ R1 s1 t1)
theorem DW.dt (h : DW X e ft) : DT X e ft := PW.pt h
theorem qN (ha : DT X a ft) : DT X (.UnaryOp .Not a pos) (WE ft) :=
 VS (Hg ha) fun σ H Q ⟨H₀, Hf₀, ρ, Hf, d, R, q, k⟩ => by
  obtain ⟨b, e1, e2⟩ := vo q
  cases e2
  exact ⟨H₀, Hf₀, ρ, Hf, b, R, e1, fun H1 Hf1 R1 s1 t1 => k _ _ R1 s1 t1⟩
def HH (f g : FE) : FE := fun ρ => (f ρ).bind fun | .bl b => (if b = true then g ρ else some (.bl false)) | _ => none
def Mq (f : FE) : FE := fun ρ => (f ρ).bind fun | .bl b => some (.bl (!b)) | _ => none
theorem z8 {α : Type} {f : FE} {k : D -> Option α} {ρ : Rho} {r : α} (h : (f ρ).bind k = some r) : ∃ b, f ρ = some b /\ k b = some r := by
 cases hf : f ρ with
 | none => rw [hf] at h; cases h
 | some x => rw [hf] at h; exact ⟨x, rfl, h⟩
theorem Ki {op} (h : DE X a f) : DE X (.BoolOp op [a] pos) f := Da h
theorem Qh (ha : DE X a f) (hb : DE X (.BoolOp .And (b :: rest) pos) g) : DE X (.BoolOp .And (a :: b :: rest) pos) (HH f g) :=
 yW (Df ha hb) fun σ H Q ⟨H₀, Hf₀, ρ, Hf, d, R, q, k⟩ => by
  obtain ⟨x, e1, e2⟩ := z8 q
  cases x <;> try cases e2
  rename_i b
  refine ⟨H₀, Hf₀, ρ, Hf, _, R, e1, fun v H1 Hf1 R1 s1 t1 h1 => ⟨b, Has.bl_iff.mp h1, ?_⟩⟩
  cases b with
  | true => exact Gy ⟨H₀, Hf₀, ρ, Hf1, d, R1, e2, fun v H2 Hf2 R2 s2 t2 h2 => k _ _ _ R2 (s1.trans s2) (t1.trans t2) h2⟩
  | false => cases e2; exact Gz (k _ _ _ R1 s1 t1 (Has.bl_iff.mpr rfl))
theorem MC (ha : DE X a f) : DE X (.UnaryOp .Not a pos) (Mq f) :=
 yW (Dc ha) fun σ H Q ⟨H₀, Hf₀, ρ, Hf, d, R, q, k⟩ => by
  obtain ⟨x, e1, e2⟩ := z8 q
  cases x <;> try cases e2
  rename_i b
  exact ⟨H₀, Hf₀, ρ, Hf, _, R, e1, fun v H1 Hf1 R1 s1 t1 h1 => ⟨b, Has.bl_iff.mp h1, k _ _ _ R1 s1 t1 (Has.bl_iff.mpr rfl)⟩⟩
def ifF (c : FT) (f g : FE) : FE := fun ρ => (c ρ).bind fun b => if b = true then f ρ else g ρ
theorem Vs (hc : DT X c ft) (ha : DE X a f) (hb : DE X b g) : DE X (.IfExp c a b pos) (ifF ft f g) :=
 yW (K7 hc ha hb) fun σ H Q ⟨H₀, Hf₀, ρ, Hf, d, R, q, k⟩ => by
  obtain ⟨x, e1, e2⟩ := vo q
  refine ⟨H₀, Hf₀, ρ, Hf, x, R, e1, fun H1 Hf1 R1 s1 t1 => ?_⟩
  cases x with
  | true => exact Gy ⟨H₀, Hf₀, ρ, Hf1, d, R1, e2, fun v H2 Hf2 R2 s2 t2 h2 => k _ _ _ R2 (s1.trans s2) (t1.trans t2) h2⟩
  | false => exact Gz ⟨H₀, Hf₀, ρ, Hf1, d, R1, e2, fun v H2 Hf2 R2 s2 t2 h2 => k _ _ _ R2 (s1.trans s2) (t1.trans t2) h2⟩
end
mutual
def eqD : D -> D -> Bool
 | .non, .non => true
 | .bl a, .bl b => a == b
 | .bl a, .int b => (if a then 1 else 0) == b
 | .int a, .bl b => a == (if b then 1 else 0)
 | .int a, .int b => a == b
 | .str a, .str b => a == b
 | .tup a, .tup b => Xp a b
 | .lst a, .lst b => Xp a b
 | _, _ => false
def Xp : List D -> List D -> Bool
 | [], [] => true
 | x :: xs, y :: ys => eqD x y && Xp xs ys
 | _, _ => false
end
mutual
def dep : D -> Nat
 | .tup a => uV a + 1
 | .lst a => uV a + 1
 | _ => 0
def uV : List D -> Nat
 | [] => 0
 | x :: xs => max (dep x) (uV xs)
end
theorem jZ {l : List D} {k : Nat} (h : ∀ d ∈ l, dep d <= k) : uV l <= k := by
 induction l with
 | nil => simp [uV]
 | cons x xs ih =>
  unfold uV
  exact Nat.max_le.mpr ⟨h x g0s, ih fun d hd => h d (g0m _ hd)⟩
mutual
theorem ju : ∀ d : D, eqD d d = true
 | .non => by simp [eqD]
 | .bl b => by simp [eqD]
 | .int i => by simp [eqD]
 | .str x => by simp [eqD]
 | .tup ds => by unfold eqD; exact Zz ds
 | .lst ds => by unfold eqD; exact Zz ds
theorem Zz : ∀ ds : List D, Xp ds ds = true
 | [] => by simp [Xp]
 | d :: ds => by unfold Xp; rw [ju d, Zz ds]; rfl
end
theorem qV : ∀ (xs ys : List D), Xp xs ys = ((g1e (min xs.length ys.length)).all (fun j => eqD (xs.getD j .non) (ys.getD j .non)) && xs.length == ys.length)
 | [], [] => by simp [Xp]
 | [], y :: ys => by simp [Xp]
 | x :: xs, [] => by simp [Xp]
 | x :: xs, y :: ys => by
  unfold Xp
  rw [qV xs ys]
  have e : min (x :: xs).length (y :: ys).length = min xs.length ys.length + 1 := by simp only [g0d]; omega
  rw [e, g2c, List.all_cons, List.all_map]
  simp [Function.comp_def, Bool.and_assoc]
section
variable {X : Cx} {pins : List (Addr × Obj)} {σ : St} {H Hf : Hp} {s : Shared}
mutual
theorem Has.inj (I : Inv X pins σ H s) : ∀ {d d' : D} {v : V}, Has X.K H d v -> Has X.K H d' v -> d = d'
 | .non, d', v, h, h' => by
  rw [Has.non_iff] at h; subst h
  cases d' with
  | non => rfl
  | bl b => cases Has.bl_iff.mp h'
  | int b => cases Has.int_iff.mp h'
  | str b => cases Has.str_iff.mp h'
  | tup b => obtain ⟨_, _, e, _⟩ := Has.tup_iff.mp h'; cases e
  | lst b => obtain ⟨_, _, e, _⟩ := Has.lst_iff.mp h'; cases e
 | .bl x, d', v, h, h' => by
  rw [Has.bl_iff] at h; subst h
  cases d' with
  | non => cases Has.non_iff.mp h'
  | bl b => cases Has.bl_iff.mp h'; rfl
  | int b => cases Has.int_iff.mp h'
  | str b => cases Has.str_iff.mp h'
  | tup b => obtain ⟨_, _, e, _⟩ := Has.tup_iff.mp h'; cases e
  | lst b => obtain ⟨_, _, e, _⟩ := Has.lst_iff.mp h'; cases e
 | .int x, d', v, h, h' => by
  rw [Has.int_iff] at h; subst h
  cases d' with
  | non => cases Has.non_iff.mp h'
  | bl b => cases Has.bl_iff.mp h'
  | int b => cases Has.int_iff.mp h'; rfl
  | str b => cases Has.str_iff.mp h'
  | tup b => obtain ⟨_, _, e, _⟩ := Has.tup_iff.mp h'; cases e
  | lst b => obtain ⟨_, _, e, _⟩ := Has.lst_iff.mp h'; cases e
 | .str x, d', v, h, h' => by
  rw [Has.str_iff] at h; subst h
  cases d' with
  | non => cases Has.non_iff.mp h'
  | bl b => cases Has.bl_iff.mp h'
  | int b => cases Has.int_iff.mp h'
  | str b => cases Has.str_iff.mp h'; rfl
  | tup b => obtain ⟨_, _, e, _⟩ := Has.tup_iff.mp h'; cases e
  | lst b => obtain ⟨_, _, e, _⟩ := Has.lst_iff.mp h'; cases e
 | .tup x, d', v, h, h' => by
  obtain ⟨a, xs, rfl, qa, la⟩ := Has.tup_iff.mp h
  cases d' with
  | non => cases Has.non_iff.mp h'
  | bl b => cases Has.bl_iff.mp h'
  | int b => cases Has.int_iff.mp h'
  | str b => cases Has.str_iff.mp h'
  | tup b =>
   obtain ⟨a', ys, e, qb, lb⟩ := Has.tup_iff.mp h'
   cases e
   cases I.tuple_inj qa qb
   rw [ya.inj I la lb]
  | lst b =>
   obtain ⟨a', ys, e, qb, lb⟩ := Has.lst_iff.mp h'
   cases e
   obtain ⟨its, _, p1, _⟩ := I.tuple qa
   obtain ⟨its', _, p2, _⟩ := I.list qb
   exact absurd rfl (SeqAt.ne_of_list_tuple p2.isList p1)
 | .lst x, d', v, h, h' => by
  obtain ⟨a, xs, rfl, qa, la⟩ := Has.lst_iff.mp h
  cases d' with
  | non => cases Has.non_iff.mp h'
  | bl b => cases Has.bl_iff.mp h'
  | int b => cases Has.int_iff.mp h'
  | str b => cases Has.str_iff.mp h'
  | lst b =>
   obtain ⟨a', ys, e, qb, lb⟩ := Has.lst_iff.mp h'
   cases e
   cases I.list_inj qa qb
   rw [ya.inj I la lb]
  | tup b =>
   obtain ⟨a', ys, e, qb, lb⟩ := Has.tup_iff.mp h'
   cases e
   obtain ⟨its, _, p1, _⟩ := I.tuple qb
   obtain ⟨its', _, p2, _⟩ := I.list qa
   exact absurd rfl (SeqAt.ne_of_list_tuple p2.isList p1)
theorem ya.inj (I : Inv X pins σ H s) : ∀ {ds ds' : List D} {xs : List V}, ya X.K H ds xs -> ya X.K H ds' xs -> ds = ds'
 | [], ds', xs, h, h' => by
  rw [ya.nil_iff] at h; subst h
  cases ds' with
  | nil => rfl
  | cons d r => obtain ⟨_, _, e, _⟩ := ya.cons_iff.mp h'; cases e
 | d :: ds, ds', xs, h, h' => by
  obtain ⟨x, r, rfl, h1, h2⟩ := ya.cons_iff.mp h
  cases ds' with
  | nil => rw [ya.nil_iff] at h'; cases h'
  | cons d' r' =>
   obtain ⟨x', r'', e, h1', h2'⟩ := ya.cons_iff.mp h'
   cases e
   rw [Has.inj I h1 h1', ya.inj I h2 h2']
end
open SeqAt in
mutual
theorem Kc (I : Inv X pins σ H s) : ∀ (d : D) (A : Around) (d' : D) (v v' : V) (u u' : Value), Has X.K H d v -> Has X.K H d' v' -> xU v u -> xU v' u' -> A.units + dep d < cLine -> EqAt A s u u' (eqD d d')
 | .non, A, d', v, v', u, u', h, h', r, r', hu => by
  have hu : A.units < cLine := by omega
  rw [Has.non_iff] at h; subst h
  cases r
  cases d' with
  | non => rw [Has.non_iff] at h'; subst h'; cases r'; exact EqAt.same _
  | bl b => rw [Has.bl_iff] at h'; subst h'; cases r'; exact EqAt.none_bool _
  | int b => rw [Has.int_iff] at h'; subst h'; obtain ⟨t, rfl⟩ := r'; exact EqAt.none_int _ _
  | str b => rw [Has.str_iff] at h'; subst h'; obtain ⟨t, rfl⟩ := r'; exact EqAt.none_str _ _
  | tup b => obtain ⟨a, xs, rfl, q, _⟩ := Has.tup_iff.mp h'; cases r'; obtain ⟨its, _, p, _⟩ := I.tuple q; exact EqAt.none_tuple p hu
  | lst b => obtain ⟨a, xs, rfl, q, _⟩ := Has.lst_iff.mp h'; cases r'; obtain ⟨its, _, p, _⟩ := I.list q; exact EqAt.none_list p.isList hu
 | .bl x, A, d', v, v', u, u', h, h', r, r', hu => by
  have hu : A.units < cLine := by omega
  rw [Has.bl_iff] at h; subst h
  cases r
  cases d' with
  | non => rw [Has.non_iff] at h'; subst h'; cases r'; exact EqAt.bool_none _
  | bl b => rw [Has.bl_iff] at h'; subst h'; cases r'; exact EqAt.bool_bool _ _
  | int b => rw [Has.int_iff] at h'; subst h'; obtain ⟨t, rfl⟩ := r'; exact EqAt.bool_int _ _ _
  | str b => rw [Has.str_iff] at h'; subst h'; obtain ⟨t, rfl⟩ := r'; exact EqAt.bool_str _ _ _
  | tup b => obtain ⟨a, xs, rfl, q, _⟩ := Has.tup_iff.mp h'; cases r'; obtain ⟨its, _, p, _⟩ := I.tuple q; exact EqAt.bool_tuple _ p hu
  | lst b => obtain ⟨a, xs, rfl, q, _⟩ := Has.lst_iff.mp h'; cases r'; obtain ⟨its, _, p, _⟩ := I.list q; exact EqAt.bool_list _ p.isList hu
 | .int x, A, d', v, v', u, u', h, h', r, r', hu => by
  have hu : A.units < cLine := by omega
  rw [Has.int_iff] at h; subst h
  obtain ⟨t, rfl⟩ := r
  cases d' with
  | non => rw [Has.non_iff] at h'; subst h'; cases r'; exact EqAt.int_none _ _
  | bl b => rw [Has.bl_iff] at h'; subst h'; cases r'; exact EqAt.int_bool _ _ _
  | int b => rw [Has.int_iff] at h'; subst h'; obtain ⟨t, rfl⟩ := r'; exact EqAt.int_int _ _ _ _
  | str b => rw [Has.str_iff] at h'; subst h'; obtain ⟨t, rfl⟩ := r'; exact EqAt.int_str _ _ _ _
  | tup b => obtain ⟨a, xs, rfl, q, _⟩ := Has.tup_iff.mp h'; cases r'; obtain ⟨its, _, p, _⟩ := I.tuple q; exact EqAt.int_tuple _ _ p hu
  | lst b => obtain ⟨a, xs, rfl, q, _⟩ := Has.lst_iff.mp h'; cases r'; obtain ⟨its, _, p, _⟩ := I.list q; exact EqAt.int_list _ _ p.isList hu
 | .str x, A, d', v, v', u, u', h, h', r, r', hu => by
  have hu : A.units < cLine := by omega
  rw [Has.str_iff] at h; subst h
  obtain ⟨t, rfl⟩ := r
  cases d' with
  | non => rw [Has.non_iff] at h'; subst h'; cases r'; exact EqAt.str_none _ _
  | bl b => rw [Has.bl_iff] at h'; subst h'; cases r'; exact EqAt.str_bool _ _ _
  | int b => rw [Has.int_iff] at h'; subst h'; obtain ⟨t, rfl⟩ := r'; exact EqAt.str_int _ _ _ _
  | str b => rw [Has.str_iff] at h'; subst h'; obtain ⟨t, rfl⟩ := r'; exact EqAt.str_str _ _ _ _
  | tup b => obtain ⟨a, xs, rfl, q, _⟩ := Has.tup_iff.mp h'; cases r'; obtain ⟨its, _, p, _⟩ := I.tuple q; exact EqAt.str_tuple _ _ p hu
  | lst b => obtain ⟨a, xs, rfl, q, _⟩ := Has.lst_iff.mp h'; cases r'; obtain ⟨its, _, p, _⟩ := I.list q; exact EqAt.str_list _ _ p.isList hu
 | .tup x, A, d', v, v', u, u', h, h', r, r', hu => by
  have hu0 : A.units < cLine := by omega
  obtain ⟨a, xs, rfl, q, l⟩ := Has.tup_iff.mp h
  cases r
  obtain ⟨its, rv, p, _⟩ := I.tuple q
  cases d' with
  | non => rw [Has.non_iff] at h'; subst h'; cases r'; exact EqAt.tuple_none p hu0
  | bl b => rw [Has.bl_iff] at h'; subst h'; cases r'; exact EqAt.tuple_bool _ p hu0
  | int b => rw [Has.int_iff] at h'; subst h'; obtain ⟨t, rfl⟩ := r'; exact EqAt.tuple_int _ _ p hu0
  | str b => rw [Has.str_iff] at h'; subst h'; obtain ⟨t, rfl⟩ := r'; exact EqAt.tuple_str _ _ p hu0
  | tup y =>
   obtain ⟨b, ys, rfl, q', l'⟩ := Has.tup_iff.mp h'
   cases r'
   obtain ⟨its', rv', p', _⟩ := I.tuple q'
   by_cases hab : a = b
   ·subst hab
    cases Has.inj I h h'
    rw [ju]
    exact EqAt.same _
   ·refine EqAt.of_refs hab ?_
    have e := RcAt.tuples (A := A) (e := fun j => eqD (x.getD j .non) (y.getD j .non)) p p' hu0 (fun j h1 h2 => uI I x A.in1 y xs ys its its' l l' rv rv' (by show A.units + 1 + _ < cLine; unfold dep at hu; omega) j (by simpa using h1) (by simpa using h2))
    unfold eqD
    rw [qV, <- l.length, <- l'.length, rv.length, rv'.length]
    simpa using e
  | lst y => obtain ⟨b, ys, rfl, q', l'⟩ := Has.lst_iff.mp h'; cases r'; obtain ⟨its', _, p', _⟩ := I.list q'; exact EqAt.tuple_list p p'.isList hu0
 | .lst x, A, d', v, v', u, u', h, h', r, r', hu => by
  have hu0 : A.units < cLine := by omega
  obtain ⟨a, xs, rfl, q, l⟩ := Has.lst_iff.mp h
  cases r
  obtain ⟨its, rv, p, _⟩ := I.list q
  cases d' with
  | non => rw [Has.non_iff] at h'; subst h'; cases r'; exact EqAt.list_none p.isList hu0
  | bl b => rw [Has.bl_iff] at h'; subst h'; cases r'; exact EqAt.list_bool _ p.isList hu0
  | int b => rw [Has.int_iff] at h'; subst h'; obtain ⟨t, rfl⟩ := r'; exact EqAt.list_int _ _ p.isList hu0
  | str b => rw [Has.str_iff] at h'; subst h'; obtain ⟨t, rfl⟩ := r'; exact EqAt.list_str _ _ p.isList hu0
  | lst y =>
   obtain ⟨b, ys, rfl, q', l'⟩ := Has.lst_iff.mp h'
   cases r'
   obtain ⟨its', rv', p', _⟩ := I.list q'
   by_cases hab : a = b
   ·subst hab
    cases Has.inj I h h'
    rw [ju]
    exact EqAt.same _
   ·refine EqAt.of_refs hab ?_
    unfold eqD
    rw [qV, <- l.length, <- l'.length, rv.length, rv'.length]
    by_cases hl : its.length = its'.length
    ·have e := RcAt.lists (A := A) (e := fun j => eqD (x.getD j .non) (y.getD j .non)) p.isList p'.isList (by simpa using hl) hu0 (fun j h1 h2 => uI I x A.in1 y xs ys its its' l l' rv rv' (by show A.units + 1 + _ < cLine; unfold dep at hu; omega) j (by simpa using h1) (by simpa using h2))
     rw [<- hl, Nat.min_self]
     simpa using e
    ·have e := RcAt.lists_lengths (A := A) p.isList p'.isList (by simpa using hl) hu0
     have : (its.length == its'.length) = false := by simpa using hl
     rw [this, Bool.and_false]
     exact e
  | tup y => obtain ⟨b, ys, rfl, q', l'⟩ := Has.tup_iff.mp h'; cases r'; obtain ⟨its', _, p', _⟩ := I.tuple q'; exact EqAt.list_tuple p.isList p' hu0
theorem uI (I : Inv X pins σ H s) : ∀ (ds : List D) (A : Around) (ds' : List D) (xs ys : List V) (us us' : List Value), ya X.K H ds xs -> ya X.K H ds' ys -> xf xs us -> xf ys us' -> A.units + uV ds < cLine →
  ∀ (j : Nat) (h1 : j < us.length) (h2 : j < us'.length), EqAt A s us[j] us'[j] (eqD (ds.getD j .non) (ds'.getD j .non))
 | [], A, ds', xs, ys, us, us', l, l', r, r', hu, j, h1, h2 => by
  rw [ya.nil_iff] at l; subst l
  cases r
  simp at h1
 | d :: ds, A, ds', xs, ys, us, us', l, l', r, r', hu, j, h1, h2 => by
  obtain ⟨x, xr, rfl, hx, hr⟩ := ya.cons_iff.mp l
  cases ds' with
  | nil =>
   rw [ya.nil_iff] at l'; subst l'
   cases r'
   simp at h2
  | cons d' ds' =>
   obtain ⟨y, yr, rfl, hy, hyr⟩ := ya.cons_iff.mp l'
   cases r with
   | cons r rr =>
    cases r' with
    | cons r' rr' =>
     unfold uV at hu
     cases j with
     | zero => exact Kc I d A d' _ _ _ _ hx hy r r' (by have := Nat.le_max_left (dep d) (uV ds); omega)
     | succ j => exact uI I ds A ds' _ _ _ _ hr hyr rr rr' (by have := Nat.le_max_right (dep d) (uV ds); omega) j (by simpa using h1) (by simpa using h2)
end
open SeqAt in
theorem Bc (I : Inv X pins σ H s) (d : D) (A : Around) (d' : D) (v v' : V) (u u' : Value) (h : Has X.K H d v) (h' : Has X.K H d' v') (r : xU v u) (r' : xU v' u') (hu : A.units + dep d < cLine) : RcAt A s u u' (eqD d d') := by
 have hu0 : A.units < cLine := by omega
 cases d with
 | non =>
  rw [Has.non_iff] at h; subst h
  cases r
  cases d' with
  | non => rw [Has.non_iff] at h'; subst h'; cases r'; exact RcAt.none_none
  | bl b => rw [Has.bl_iff] at h'; subst h'; cases r'; exact RcAt.none_bool _
  | int b => rw [Has.int_iff] at h'; subst h'; obtain ⟨t, rfl⟩ := r'; exact RcAt.none_int _ _
  | str b => rw [Has.str_iff] at h'; subst h'; obtain ⟨t, rfl⟩ := r'; exact RcAt.none_str _ _
  | tup b => obtain ⟨a, xs, rfl, q, _⟩ := Has.tup_iff.mp h'; cases r'; obtain ⟨its, _, p, _⟩ := I.tuple q; exact RcAt.none_tuple p hu0
  | lst b => obtain ⟨a, xs, rfl, q, _⟩ := Has.lst_iff.mp h'; cases r'; obtain ⟨its, _, p, _⟩ := I.list q; exact RcAt.none_list p.isList hu0
 | bl x =>
  rw [Has.bl_iff] at h; subst h
  cases r
  cases d' with
  | non => rw [Has.non_iff] at h'; subst h'; cases r'; exact RcAt.bool_none _
  | bl b => rw [Has.bl_iff] at h'; subst h'; cases r'; exact RcAt.bool_bool _ _
  | int b => rw [Has.int_iff] at h'; subst h'; obtain ⟨t, rfl⟩ := r'; exact RcAt.bool_int _ _ _
  | str b => rw [Has.str_iff] at h'; subst h'; obtain ⟨t, rfl⟩ := r'; exact RcAt.bool_str _ _ _
  | tup b => obtain ⟨a, xs, rfl, q, _⟩ := Has.tup_iff.mp h'; cases r'; obtain ⟨its, _, p, _⟩ := I.tuple q; exact RcAt.bool_tuple _ p hu0
  | lst b => obtain ⟨a, xs, rfl, q, _⟩ := Has.lst_iff.mp h'; cases r'; obtain ⟨its, _, p, _⟩ := I.list q; exact RcAt.bool_list _ p.isList hu0
 | int x =>
  rw [Has.int_iff] at h; subst h
  obtain ⟨t, rfl⟩ := r
  cases d' with
  | non => rw [Has.non_iff] at h'; subst h'; cases r'; exact RcAt.int_none _ _
  | bl b => rw [Has.bl_iff] at h'; subst h'; cases r'; exact RcAt.int_bool _ _ _
  | int b => rw [Has.int_iff] at h'; subst h'; obtain ⟨t, rfl⟩ := r'; exact RcAt.int_int _ _ _ _
  | str b => rw [Has.str_iff] at h'; subst h'; obtain ⟨t, rfl⟩ := r'; exact RcAt.int_str _ _ _ _
  | tup b => obtain ⟨a, xs, rfl, q, _⟩ := Has.tup_iff.mp h'; cases r'; obtain ⟨its, _, p, _⟩ := I.tuple q; exact RcAt.int_tuple _ _ p hu0
  | lst b => obtain ⟨a, xs, rfl, q, _⟩ := Has.lst_iff.mp h'; cases r'; obtain ⟨its, _, p, _⟩ := I.list q; exact RcAt.int_list _ _ p.isList hu0
 | str x =>
  rw [Has.str_iff] at h; subst h
  obtain ⟨t, rfl⟩ := r
  cases d' with
  | non => rw [Has.non_iff] at h'; subst h'; cases r'; exact RcAt.str_none _ _
  | bl b => rw [Has.bl_iff] at h'; subst h'; cases r'; exact RcAt.str_bool _ _ _
  | int b => rw [Has.int_iff] at h'; subst h'; obtain ⟨t, rfl⟩ := r'; exact RcAt.str_int _ _ _ _
  | str b => rw [Has.str_iff] at h'; subst h'; obtain ⟨t, rfl⟩ := r'; exact RcAt.str_str _ _ _ _
  | tup b => obtain ⟨a, xs, rfl, q, _⟩ := Has.tup_iff.mp h'; cases r'; obtain ⟨its, _, p, _⟩ := I.tuple q; exact RcAt.str_tuple _ _ p hu0
  | lst b => obtain ⟨a, xs, rfl, q, _⟩ := Has.lst_iff.mp h'; cases r'; obtain ⟨its, _, p, _⟩ := I.list q; exact RcAt.str_list _ _ p.isList hu0
 | tup x =>
  obtain ⟨a, xs, rfl, q, l⟩ := Has.tup_iff.mp h
  cases r
  obtain ⟨its, rv, p, _⟩ := I.tuple q
  cases d' with
  | non => rw [Has.non_iff] at h'; subst h'; cases r'; exact RcAt.tuple_none p hu0
  | bl b => rw [Has.bl_iff] at h'; subst h'; cases r'; exact RcAt.tuple_bool _ p hu0
  | int b => rw [Has.int_iff] at h'; subst h'; obtain ⟨t, rfl⟩ := r'; exact RcAt.tuple_int _ _ p hu0
  | str b => rw [Has.str_iff] at h'; subst h'; obtain ⟨t, rfl⟩ := r'; exact RcAt.tuple_str _ _ p hu0
  | tup y =>
   obtain ⟨b, ys, rfl, q', l'⟩ := Has.tup_iff.mp h'
   cases r'
   obtain ⟨its', rv', p', _⟩ := I.tuple q'
   have e := RcAt.tuples (A := A) (e := fun j => eqD (x.getD j .non) (y.getD j .non)) p p' hu0 (fun j h1 h2 => uI I x A.in1 y xs ys its its' l l' rv rv' (by show A.units + 1 + _ < cLine; unfold dep at hu; omega) j (by simpa using h1) (by simpa using h2))
   unfold eqD
   rw [qV, <- l.length, <- l'.length, rv.length, rv'.length]
   simpa using e
  | lst y => obtain ⟨b, ys, rfl, q', l'⟩ := Has.lst_iff.mp h'; cases r'; obtain ⟨its', _, p', _⟩ := I.list q'; exact RcAt.tuple_list p p'.isList hu0
 | lst x =>
  obtain ⟨a, xs, rfl, q, l⟩ := Has.lst_iff.mp h
  cases r
  obtain ⟨its, rv, p, _⟩ := I.list q
  cases d' with
  | non => rw [Has.non_iff] at h'; subst h'; cases r'; exact RcAt.list_none p.isList hu0
  | bl b => rw [Has.bl_iff] at h'; subst h'; cases r'; exact RcAt.list_bool _ p.isList hu0
  | int b => rw [Has.int_iff] at h'; subst h'; obtain ⟨t, rfl⟩ := r'; exact RcAt.list_int _ _ p.isList hu0
  | str b => rw [Has.str_iff] at h'; subst h'; obtain ⟨t, rfl⟩ := r'; exact RcAt.list_str _ _ p.isList hu0
  | lst y =>
   obtain ⟨b, ys, rfl, q', l'⟩ := Has.lst_iff.mp h'
   cases r'
   obtain ⟨its', rv', p', _⟩ := I.list q'
   unfold eqD
   rw [qV, <- l.length, <- l'.length, rv.length, rv'.length]
   by_cases hl : its.length = its'.length
   ·have e := RcAt.lists (A := A) (e := fun j => eqD (x.getD j .non) (y.getD j .non)) p.isList p'.isList (by simpa using hl) hu0 (fun j h1 h2 => uI I x A.in1 y xs ys its its' l l' rv rv' (by show A.units + 1 + _ < cLine; unfold dep at hu; omega) j (by simpa using h1) (by simpa using h2))
    rw [<- hl, Nat.min_self]
    simpa using e
   ·have e := RcAt.lists_lengths (A := A) p.isList p'.isList (by simpa using hl) hu0
    have : (its.length == its'.length) = false := by simpa using hl
    rw [this, Bool.and_false]
    exact e
  | tup y => obtain ⟨b, ys, rfl, q', l'⟩ := Has.tup_iff.mp h'; cases r'; obtain ⟨its', _, p', _⟩ := I.tuple q'; exact RcAt.list_tuple p.isList p' hu0
open SeqAt in
theorem Bb (I : Inv X pins σ H s) (d : D) (A : Around) (d' : D) (v v' : V) (u u' : Value) (h : Has X.K H d v) (h' : Has X.K H d' v') (r : xU v u) (r' : xU v' u') (hu : A.units + dep d < cLine) : RcNeAt A s u u' (!eqD d d') := by
 have hu0 : A.units < cLine := by omega
 cases d with
 | non =>
  rw [Has.non_iff] at h; subst h
  cases r
  cases d' with
  | non => rw [Has.non_iff] at h'; subst h'; cases r'; exact RcNeAt.none_none
  | bl b => rw [Has.bl_iff] at h'; subst h'; cases r'; exact RcNeAt.none_bool _
  | int b => rw [Has.int_iff] at h'; subst h'; obtain ⟨t, rfl⟩ := r'; exact RcNeAt.none_int _ _
  | str b => rw [Has.str_iff] at h'; subst h'; obtain ⟨t, rfl⟩ := r'; exact RcNeAt.none_str _ _
  | tup b => obtain ⟨a, xs, rfl, q, _⟩ := Has.tup_iff.mp h'; cases r'; obtain ⟨its, _, p, _⟩ := I.tuple q; exact RcNeAt.none_tuple p hu0
  | lst b => obtain ⟨a, xs, rfl, q, _⟩ := Has.lst_iff.mp h'; cases r'; obtain ⟨its, _, p, _⟩ := I.list q; exact RcNeAt.none_list p.isList hu0
 | bl x =>
  rw [Has.bl_iff] at h; subst h
  cases r
  cases d' with
  | non => rw [Has.non_iff] at h'; subst h'; cases r'; exact RcNeAt.bool_none _
  | bl b => rw [Has.bl_iff] at h'; subst h'; cases r'; exact RcNeAt.bool_bool _ _
  | int b => rw [Has.int_iff] at h'; subst h'; obtain ⟨t, rfl⟩ := r'; exact RcNeAt.bool_int _ _ _
  | str b => rw [Has.str_iff] at h'; subst h'; obtain ⟨t, rfl⟩ := r'; exact RcNeAt.bool_str _ _ _
  | tup b => obtain ⟨a, xs, rfl, q, _⟩ := Has.tup_iff.mp h'; cases r'; obtain ⟨its, _, p, _⟩ := I.tuple q; exact RcNeAt.bool_tuple _ p hu0
  | lst b => obtain ⟨a, xs, rfl, q, _⟩ := Has.lst_iff.mp h'; cases r'; obtain ⟨its, _, p, _⟩ := I.list q; exact RcNeAt.bool_list _ p.isList hu0
 | int x =>
  rw [Has.int_iff] at h; subst h
  obtain ⟨t, rfl⟩ := r
  cases d' with
  | non => rw [Has.non_iff] at h'; subst h'; cases r'; exact RcNeAt.int_none _ _
  | bl b => rw [Has.bl_iff] at h'; subst h'; cases r'; exact RcNeAt.int_bool _ _ _
  | int b => rw [Has.int_iff] at h'; subst h'; obtain ⟨t, rfl⟩ := r'; exact RcNeAt.int_int _ _ _ _
  | str b => rw [Has.str_iff] at h'; subst h'; obtain ⟨t, rfl⟩ := r'; exact RcNeAt.int_str _ _ _ _
  | tup b => obtain ⟨a, xs, rfl, q, _⟩ := Has.tup_iff.mp h'; cases r'; obtain ⟨its, _, p, _⟩ := I.tuple q; exact RcNeAt.int_tuple _ _ p hu0
  | lst b => obtain ⟨a, xs, rfl, q, _⟩ := Has.lst_iff.mp h'; cases r'; obtain ⟨its, _, p, _⟩ := I.list q; exact RcNeAt.int_list _ _ p.isList hu0
 | str x =>
  rw [Has.str_iff] at h; subst h
  obtain ⟨t, rfl⟩ := r
  cases d' with
  | non => rw [Has.non_iff] at h'; subst h'; cases r'; exact RcNeAt.str_none _ _
  | bl b => rw [Has.bl_iff] at h'; subst h'; cases r'; exact RcNeAt.str_bool _ _ _
  | int b => rw [Has.int_iff] at h'; subst h'; obtain ⟨t, rfl⟩ := r'; exact RcNeAt.str_int _ _ _ _
  | str b => rw [Has.str_iff] at h'; subst h'; obtain ⟨t, rfl⟩ := r'; exact RcNeAt.str_str _ _ _ _
  | tup b => obtain ⟨a, xs, rfl, q, _⟩ := Has.tup_iff.mp h'; cases r'; obtain ⟨its, _, p, _⟩ := I.tuple q; exact RcNeAt.str_tuple _ _ p hu0
  | lst b => obtain ⟨a, xs, rfl, q, _⟩ := Has.lst_iff.mp h'; cases r'; obtain ⟨its, _, p, _⟩ := I.list q; exact RcNeAt.str_list _ _ p.isList hu0
 | tup x =>
  obtain ⟨a, xs, rfl, q, l⟩ := Has.tup_iff.mp h
  cases r
  obtain ⟨its, rv, p, _⟩ := I.tuple q
  cases d' with
  | non => rw [Has.non_iff] at h'; subst h'; cases r'; exact RcNeAt.tuple_none p hu0
  | bl b => rw [Has.bl_iff] at h'; subst h'; cases r'; exact RcNeAt.tuple_bool _ p hu0
  | int b => rw [Has.int_iff] at h'; subst h'; obtain ⟨t, rfl⟩ := r'; exact RcNeAt.tuple_int _ _ p hu0
  | str b => rw [Has.str_iff] at h'; subst h'; obtain ⟨t, rfl⟩ := r'; exact RcNeAt.tuple_str _ _ p hu0
  | tup y =>
   obtain ⟨b, ys, rfl, q', l'⟩ := Has.tup_iff.mp h'
   cases r'
   obtain ⟨its', rv', p', _⟩ := I.tuple q'
   have e := RcNeAt.tuples (A := A) (e := fun j => eqD (x.getD j .non) (y.getD j .non)) p p' hu0 (fun j h1 h2 => uI I x A.in1 y xs ys its its' l l' rv rv' (by show A.units + 1 + _ < cLine; unfold dep at hu; omega) j (by simpa using h1) (by simpa using h2))
   unfold eqD
   rw [qV, <- l.length, <- l'.length, rv.length, rv'.length]
   simpa using e
  | lst y => obtain ⟨b, ys, rfl, q', l'⟩ := Has.lst_iff.mp h'; cases r'; obtain ⟨its', _, p', _⟩ := I.list q'; exact RcNeAt.tuple_list p p'.isList hu0
 | lst x =>
  obtain ⟨a, xs, rfl, q, l⟩ := Has.lst_iff.mp h
  cases r
  obtain ⟨its, rv, p, _⟩ := I.list q
  cases d' with
  | non => rw [Has.non_iff] at h'; subst h'; cases r'; exact RcNeAt.list_none p.isList hu0
  | bl b => rw [Has.bl_iff] at h'; subst h'; cases r'; exact RcNeAt.list_bool _ p.isList hu0
  | int b => rw [Has.int_iff] at h'; subst h'; obtain ⟨t, rfl⟩ := r'; exact RcNeAt.list_int _ _ p.isList hu0
  | str b => rw [Has.str_iff] at h'; subst h'; obtain ⟨t, rfl⟩ := r'; exact RcNeAt.list_str _ _ p.isList hu0
  | lst y =>
   obtain ⟨b, ys, rfl, q', l'⟩ := Has.lst_iff.mp h'
   cases r'
   obtain ⟨its', rv', p', _⟩ := I.list q'
   unfold eqD
   rw [qV, <- l.length, <- l'.length, rv.length, rv'.length]
   by_cases hl : its.length = its'.length
   ·have e := RcNeAt.lists (A := A) (e := fun j => eqD (x.getD j .non) (y.getD j .non)) p.isList p'.isList (by simpa using hl) hu0 (fun j h1 h2 => uI I x A.in1 y xs ys its its' l l' rv rv' (by show A.units + 1 + _ < cLine; unfold dep at hu; omega) j (by simpa using h1) (by simpa using h2))
    rw [<- hl, Nat.min_self]
    simpa using e
   ·have e := RcNeAt.lists_lengths (A := A) p.isList p'.isList (by simpa using hl) hu0
    have : (its.length == its'.length) = false := by simpa using hl
    rw [this, Bool.and_false]
    exact e
  | tup y => obtain ⟨b, ys, rfl, q', l'⟩ := Has.tup_iff.mp h'; cases r'; obtain ⟨its', _, p', _⟩ := I.tuple q'; exact RcNeAt.list_tuple p.isList p' hu0
end
theorem j6.full {K : W.Frag} {H₀ Hf₀ H Hf : Hp} {σ : St} {ρ : Rho} {d : D} {v : V} (h : j6 K Hf σ ρ d v) (R : Rep K H₀ Hf₀ σ ρ H Hf) : Has K H d v := by
 rcases h with h | ⟨i, ds, rfl, e1, e2⟩
 ·exact h.mono R.sf
 ·obtain ⟨a, p1, ⟨xs, p2, p3⟩, _⟩ := R.ow i _ e1 rfl
  rw [e2] at p1; cases p1
  exact Has.lst_iff.mpr ⟨a, xs, rfl, SqL.of p2, p3.mono R.sf⟩
section
variable {X : Cx} {e a b c : Expr} {es : List Expr} {f g h : FE} {fa ga : FA} {ft gt : FT} {pos : Pos} {t t' : TE} {kk : Nat}
def M3 (K : W.Frag) : R2 := fun x y H Q => ∃ d d', Has K H d x /\ Has K H d' y /\ dep d <= 100 /\ Q (.bl (eqD d d')) H
def MX (K : W.Frag) : R2 := fun x y H Q => ∃ d d', Has K H d x /\ Has K H d' y /\ dep d <= 100 /\ Q (.bl (!eqD d d')) H
theorem Jj (hr : Room kk X.A) : OpR X (compareOp .Eq) (M3 X.K) := by
 intro pins s σ H x y v u Q I rx ry h
 obtain ⟨d, d', h1, h2, h3, q⟩ := h
 exact Bc I d X.A d' x y v u h1 h2 rx ry (by have := hr.un; omega) X.prog X.w X.xe _ ⟨.bl _, H, I, rfl, q⟩
theorem Di (hr : Room kk X.A) : OpR X (compareOp .NotEq) (MX X.K) := by
 intro pins s σ H x y v u Q I rx ry h
 obtain ⟨d, d', h1, h2, h3, q⟩ := h
 exact Bb I d X.A d' x y v u h1 h2 rx ry (by have := hr.un; omega) X.prog X.w X.xe _ ⟨.bl _, H, I, rfl, q⟩
def eqF : D -> D -> Option D := fun x y => if dep x <= 100 then some (.bl (eqD x y)) else none
def neF : D -> D -> Option D := fun x y => if dep x <= 100 then some (.bl (!eqD x y)) else none
theorem Jn : OpD X (M3 X.K) eqF := by
 intro σ ρ H₀ Hf₀ H Hf x y dx dy d Q R hx hy hφ k
 unfold eqF at hφ
 split at hφ
 ·cases hφ
  exact ⟨dx, dy, hx.full R, hy.full R, by assumption, k _ _ _ R zB zB (Has.bl_iff.mpr rfl)⟩
 ·cases hφ
theorem Do : OpD X (MX X.K) neF := by
 intro σ ρ H₀ Hf₀ H Hf x y dx dy d Q R hx hy hφ k
 unfold neF at hφ
 split at hφ
 ·cases hφ
  exact ⟨dx, dy, hx.full R, hy.full R, by assumption, k _ _ _ R zB zB (Has.bl_iff.mpr rfl)⟩
 ·cases hφ
theorem Cf (hr : Room kk X.A) (ha : DR X a f) (hb : DR X b g) : DE X (.Compare a [.Eq] [b] pos) (zc eqF f g) := GX (Jj hr) Jn ha hb (u5 _)
theorem vD (hr : Room kk X.A) (ha : DR X a f) (hb : DR X b g) : DT X (.Compare a [.Eq] [b] pos) (blF (zc eqF f g)) := xw (Jj hr) Jn ha hb (u5 _)
theorem Wh (hr : Room kk X.A) (ha : DR X a f) (hb : DR X b g) : DT X (.Compare a [.NotEq] [b] pos) (blF (zc neF f g)) := xw (Di hr) Do ha hb (u5 _)
def FnR (X : Cx) (r : List V -> Hp -> VK -> Prop) (φ : List D -> Option D) : Prop :=
 ∀ (σ : St) (ρ : Rho) (H₀ Hf₀ H Hf : Hp) (xs : List V) (ds : List D) (d : D) (Q : VK), Rep X.K H₀ Hf₀ σ ρ H Hf -> WD X.K Hf σ ρ ds xs -> φ ds = some d →
  (∀ v H' Hf', Rep X.K H₀ Hf₀ σ ρ H' Hf' -> yo H H' -> yo Hf Hf' -> Has X.K Hf' d v -> Q v H') -> r xs H Q
def zO (φ : List D -> Option D) (fa : FA) : FE := fun ρ => (fa ρ).bind φ
theorem yZ {α : Type} {f : FA} {k : List D -> Option α} {ρ : Rho} {r : α} (h : (f ρ).bind k = some r) : ∃ b, f ρ = some b /\ k b = some r := by
 cases hf : f ρ with
 | none => rw [hf] at h; cases h
 | some x => rw [hf] at h; exact ⟨x, rfl, h⟩
theorem G8 {r : List V -> Hp -> VK -> Prop} {φ : List D -> Option D} (hφ : FnR X r φ) (σ : St) (H : Hp) (Q : VK) (hh : tF X.K (zO φ fa) σ H Q) : tCB r (tAR X.K fa) σ H Q := by
 obtain ⟨H₀, Hf₀, ρ, Hf, d, R, q, k⟩ := hh
 obtain ⟨ds, e1, e2⟩ := yZ q
 exact ⟨H₀, Hf₀, ρ, Hf, ds, R, e1, fun vs H1 Hf1 R1 s1 t1 h1 => hφ σ ρ H₀ Hf₀ H1 Hf1 vs ds d Q R1 h1 e2 fun v H2 Hf2 R2 s2 t2 h2 => k _ _ _ R2 (s1.trans s2) (t1.trans t2) h2⟩
theorem wu {id : String} {x : Str} {p : Pos} {r : List V -> Hp -> VK -> Prop} {φ : List D -> Option D} (hc : uN X (.builtin id) r) (hφ : FnR X r φ) (hg : Gl X x) (hm : X.mg x = none) (hv : bootBuiltins x = some (.builtin id)) (ha : DAR X (e :: es) fa)
  (hn : x ≠ "__name__" := by decide) (hdb : (x == ("__debug__" : Str)) = false := by decide)
  (he : starEach (e :: es) X.env = (false, eval e X.env) :: starEach es X.env := by rfl) (hpl : (backTo pos (starEach es X.env)).any (·.1) = false := by rfl) : DE X (.Call (.Name x p) (e :: es) [] pos) (zO φ fa) :=
 yW (YT hc hg hm hv ha hn hdb he hpl) (G8 hφ)
theorem xD {T : String} {x : Str} {p : Pos} {r : List V -> Hp -> VK -> Prop} {φ : List D -> Option D} (hc : uN X (.type T) r) (hφ : FnR X r φ) (hg : Gl X x) (hm : X.mg x = none) (hv : bootBuiltins x = some (.type T)) (ha : DAR X (e :: es) fa)
  (hn : x ≠ "__name__" := by decide) (hdb : (x == ("__debug__" : Str)) = false := by decide)
  (he : starEach (e :: es) X.env = (false, eval e X.env) :: starEach es X.env := by rfl) (hpl : (backTo pos (starEach es X.env)).any (·.1) = false := by rfl) : DE X (.Call (.Name x p) (e :: es) [] pos) (zO φ fa) :=
 yW (XM hc hg hm hv ha hn hdb he hpl) (G8 hφ)
theorem WD.one {K : W.Frag} {Hf : Hp} {σ : St} {ρ : Rho} {d : D} {xs : List V} (h : WD K Hf σ ρ [d] xs) : ∃ v, xs = [v] /\ j6 K Hf σ ρ d v := by
 cases h with
 | cons h1 h2 => cases h2; exact ⟨_, rfl, h1⟩
theorem WD.two {K : W.Frag} {Hf : Hp} {σ : St} {ρ : Rho} {d d' : D} {xs : List V} (h : WD K Hf σ ρ [d, d'] xs) : ∃ v v', xs = [v, v'] /\ j6 K Hf σ ρ d v /\ j6 K Hf σ ρ d' v' := by
 cases h with
 | cons h1 h2 =>
  cases h2 with
  | cons h2 h3 => cases h3; exact ⟨_, _, rfl, h1, h2⟩
def WG : List D -> Option D
 | [.lst ds] => some (.int ds.length)
 | [.tup ds] => some (.int ds.length)
 | [.str x] => if x.length <= sizeLine then some (.int x.length) else none
 | _ => none
theorem vG : uN X (.builtin "len") (fun xs H Q => (∃ p ys, xs = [.ref p] /\ (SqL X.K H p ys \/ SqT X.K H p ys) /\ Q (.int ys.length) H) \/ (∃ z, xs = [.str z] /\ z.length <= sizeLine /\ Q (.int z.length) H)) := uN.or Wq Wp
theorem jW : FnR X (fun xs H Q => (∃ p ys, xs = [.ref p] /\ (SqL X.K H p ys \/ SqT X.K H p ys) /\ Q (.int ys.length) H) \/ (∃ z, xs = [.str z] /\ z.length <= sizeLine /\ Q (.int z.length) H)) WG := by
 intro σ ρ H₀ Hf₀ H Hf xs ds d Q R hx hφ k
 unfold WG at hφ
 split at hφ
 ·cases hφ
  obtain ⟨v, rfl, hv⟩ := hx.one
  obtain ⟨a, ys, rfl, q, l⟩ := hv.lst R
  exact .inl ⟨a, ys, rfl, .inl q, k _ _ _ R zB zB (by rw [<- l.length]; exact Has.int_iff.mpr rfl)⟩
 ·cases hφ
  obtain ⟨v, rfl, hv⟩ := hx.one
  obtain ⟨a, ys, rfl, q, l⟩ := hv.tup R
  exact .inl ⟨a, ys, rfl, .inr q, k _ _ _ R zB zB (by rw [<- l.length]; exact Has.int_iff.mpr rfl)⟩
 ·split at hφ
  ·cases hφ
   obtain ⟨v, rfl, hv⟩ := hx.one
   exact .inr ⟨_, by rw [hv.str], by assumption, k _ _ _ R zB zB (Has.int_iff.mpr rfl)⟩
  ·cases hφ
 ·cases hφ
def NM : List D -> Option D
 | [.int i] => some (.int (if i < 0 then -i else i))
 | _ => none
def Hv : List D -> Option D
 | [.int i, .int j] => some (.int (if j > i then j else i))
 | _ => none
def Hu : List D -> Option D
 | [.int i, .int j] => some (.int (if j < i then j else i))
 | _ => none
theorem Vn : FnR X (fun xs H Q => ∃ i j, xs = [.int i, .int j] /\ Q (.int (if j > i then j else i)) H) Hv := by
 intro σ ρ H₀ Hf₀ H Hf xs ds d Q R hx hφ k
 unfold Hv at hφ
 split at hφ
 ·cases hφ
  obtain ⟨v, v', rfl, hv, hv'⟩ := hx.two
  exact ⟨_, _, by rw [hv.int, hv'.int], k _ _ _ R zB zB (Has.int_iff.mpr rfl)⟩
 ·cases hφ
theorem Vm : FnR X (fun xs H Q => ∃ i j, xs = [.int i, .int j] /\ Q (.int (if j < i then j else i)) H) Hu := by
 intro σ ρ H₀ Hf₀ H Hf xs ds d Q R hx hφ k
 unfold Hu at hφ
 split at hφ
 ·cases hφ
  obtain ⟨v, v', rfl, hv, hv'⟩ := hx.two
  exact ⟨_, _, by rw [hv.int, hv'.int], k _ _ _ R zB zB (Has.int_iff.mpr rfl)⟩
 ·cases hφ
def Vj : List D -> Option D
 | [.int i] => some (.int i)
 | [.bl b] => some (.int (if b then 1 else 0))
 | _ => none
theorem qT : FnR X (fun xs H Q => (∃ i, xs = [.int i] /\ Q (.int i) H) \/ ∃ k, xs = [.bl k] /\ Q (.int (if k then 1 else 0)) H) Vj := by
 intro σ ρ H₀ Hf₀ H Hf xs ds d Q R hx hφ k
 unfold Vj at hφ
 split at hφ
 ·cases hφ
  obtain ⟨v, rfl, hv⟩ := hx.one
  exact .inl ⟨_, by rw [hv.int], k _ _ _ R zB zB (Has.int_iff.mpr rfl)⟩
 ·cases hφ
  obtain ⟨v, rfl, hv⟩ := hx.one
  exact .inr ⟨_, by rw [hv.bl], k _ _ _ R zB zB (Has.int_iff.mpr rfl)⟩
 ·cases hφ
def yh (F G : FS) : FS := fun ρ => (F ρ).bind fun o => match o with
 | .nx ρ' => G ρ'
 | o => some o
def nxF : FS := fun ρ => some (.nx ρ)
variable {st : Stmt} {sts rest : List Stmt} {F G : FS}
theorem j3 {α : Type} {F : FS} {k : Out -> Option α} {ρ : Rho} {r : α} (h : (F ρ).bind k = some r) : ∃ b, F ρ = some b /\ k b = some r := by
 cases hf : F ρ with
 | none => rw [hf] at h; cases h
 | some x => rw [hf] at h; exact ⟨x, rfl, h⟩
theorem zL : DSs X [] nxF := W0 WZ fun D' σ H ⟨H₀, Hf₀, ρ, Hf, o, R, q, k⟩ => by cases q; exact k _ _ _ R zB
theorem ze (h1 : DS X st F) (h2 : DSs X rest G) : DSs X (st :: rest) (yh F G) := W0 (xo h1 h2) fun D' σ H ⟨H₀, Hf₀, ρ, Hf, o, R, q, k⟩ => by
 obtain ⟨o1, e1, e2⟩ := j3 q
 refine ⟨H₀, Hf₀, ρ, Hf, o1, R, e1, ?_⟩
 cases o1 with
 | nx ρ' =>
  intro σ' H' Hf' R' s'
  refine ⟨H₀, Hf₀, ρ', Hf', o, R', e2, ?_⟩
  cases o with
  | nx _ => exact fun σ2 H2 Hf2 R2 s2 => k _ _ _ R2 (s'.trans s2)
  | bk _ => exact fun σ2 H2 Hf2 R2 s2 => k _ _ _ R2 (s'.trans s2)
  | ct _ => exact fun σ2 H2 Hf2 R2 s2 => k _ _ _ R2 (s'.trans s2)
  | rt _ => exact fun v σ2 ρ2 H2 Hf2 R2 s2 h2 => k _ _ _ _ _ R2 (s'.trans s2) h2
 | bk _ => cases e2; exact k
 | ct _ => cases e2; exact k
 | rt _ => cases e2; exact k
theorem zi (h1 : DS X st F) : DSs X [st] F := vy h1
def yv (f : FE) : FS := fun ρ => (f ρ).bind fun d => some (.rt d)
theorem zw (he : DE X e f) : DS X (.Return (some e) pos) (yv f) := kl (Hh he) fun D' σ H ⟨H₀, Hf₀, ρ, Hf, o, R, q, k⟩ => by
 obtain ⟨d, e1, e2⟩ := z8 q
 cases e2
 exact ⟨H₀, Hf₀, ρ, Hf, d, R, e1, fun v H1 Hf1 R1 s1 t1 h1 => k v σ ρ H1 Hf1 R1 t1 h1⟩
def ifS (c : FT) (F G : FS) : FS := fun ρ => (c ρ).bind fun b => if b = true then F ρ else G ρ
theorem FH.mono {K : W.Frag} {H₀ Hf₀ Hf Hf1 : Hp} {D' : Ends} {o : Out} (k : FH K H₀ Hf₀ Hf D' o) (t : yo Hf Hf1) : FH K H₀ Hf₀ Hf1 D' o := by
 cases o with
 | nx _ => exact fun σ2 H2 Hf2 R2 s2 => k _ _ _ R2 (t.trans s2)
 | bk _ => exact fun σ2 H2 Hf2 R2 s2 => k _ _ _ R2 (t.trans s2)
 | ct _ => exact fun σ2 H2 Hf2 R2 s2 => k _ _ _ R2 (t.trans s2)
 | rt _ => exact fun v σ2 ρ2 H2 Hf2 R2 s2 h2 => k _ _ _ _ _ R2 (t.trans s2) h2
theorem yT {a b : List Stmt} (hc : DT X c ft) (ha : DSs X a F) (hb : DSs X b G) : DS X (.If c a b pos) (ifS ft F G) := kl (Bg hc ha hb) fun D' σ H ⟨H₀, Hf₀, ρ, Hf, o, R, q, k⟩ => by
 obtain ⟨x, e1, e2⟩ := vo q
 refine ⟨H₀, Hf₀, ρ, Hf, x, R, e1, fun H1 Hf1 R1 s1 t1 => ?_⟩
 cases x with
 | true => exact Gy ⟨H₀, Hf₀, ρ, Hf1, o, R1, e2, k.mono t1⟩
 | false => exact Gz ⟨H₀, Hf₀, ρ, Hf1, o, R1, e2, k.mono t1⟩
def xb (i : Nat) (f : FE) : FS := fun ρ => (f ρ).bind fun d => some (.nx (ρ.set i (.fr d)))
theorem zZ {x : Str} {pos' : Pos} (i : Nat) (hN : X.N.Nodup) (he : DE X e f) (hi : X.N[i]? = some x := by rfl) (hx : Loc X.env.scope x := by first | exact Or.inl rfl | exact Or.inr rfl) (hs : swapsWith e (some (.Name x pos')) pos.line X.env = pure false := by rfl)
  (hf : X.fn x = true \/ X.env.scope.names.lookup x = some .local := by first | exact .inl rfl | exact .inr rfl | assumption) : DS X (.Assign [.Name x pos'] e pos) (xb i f) :=
 kl (Yc hN hi hx he hs hf) fun D' σ H ⟨H₀, Hf₀, ρ, Hf, o, R, q, k⟩ => by
  obtain ⟨d, e1, e2⟩ := z8 q
  cases e2
  exact ⟨H₀, Hf₀, ρ, Hf, d, R, e1, fun v H1 Hf1 R1 s1 t1 h1 => k _ _ _ (R1.set i h1) t1⟩
def Cz (i : Nat) (f : FA) : FS := fun ρ => (f ρ).bind fun ds => some (.nx (ρ.set i (.ol ds)))
theorem Y8 {x : Str} {pos' : Pos} (i : Nat) (hN : X.N.Nodup) (he : DN X e fa) (hi : X.N[i]? = some x := by rfl) (hx : Loc X.env.scope x := by first | exact Or.inl rfl | exact Or.inr rfl) (hs : swapsWith e (some (.Name x pos')) pos.line X.env = pure false := by rfl)
  (hf : X.fn x = true \/ X.env.scope.names.lookup x = some .local := by first | exact .inl rfl | exact .inr rfl | assumption) : DS X (.Assign [.Name x pos'] e pos) (Cz i fa) :=
 kl (Yc hN hi hx he hs hf) fun D' σ H ⟨H₀, Hf₀, ρ, Hf, o, R, q, k⟩ => by
  obtain ⟨d, e1, e2⟩ := yZ q
  cases e2
  refine ⟨H₀, Hf₀, ρ, Hf, d, R, e1, fun a xs H1 Hf1 R1 s1 t1 h1 ha hn hh => k _ _ _ (R1.setOwn i rfl ⟨xs, ha, h1⟩ hn (R.s0.free hh) ?_) t1⟩
  intro j sl z o z'
  obtain ⟨b, p1, p2, _⟩ := R.ow j sl z o
  rw [p1] at z'; cases z'
  obtain ⟨ob, q'⟩ := p2.there o
  rw [q'] at hh; cases hh
def frz (i : Nat) (ρ : Rho) : Option Rho := match ρ[i]? with
 | some (.ol ds) => some (ρ.set i (.fr (.lst ds)))
 | some (.fr _) => some ρ
 | _ => none
def DV (i : Nat) (F : FS) : FS := fun ρ => (frz i ρ).bind F
theorem Ke (i : Nat) (h : DSs X sts F) : DSs X sts (DV i F) := W0 h fun D' σ H ⟨H₀, Hf₀, ρ, Hf, o, R, q, k⟩ => by
 unfold DV frz at q
 split at q
 ·rename_i ds e
  obtain ⟨Hf', sm, R'⟩ := R.freeze e
  exact ⟨H₀, Hf₀, _, Hf', o, R', q, k.mono sm⟩
 ·exact ⟨H₀, Hf₀, _, Hf, o, R, q, k⟩
 ·cases q
abbrev FG := D -> Rho -> Option Rho
def tG (K : W.Frag) (γ : FG) : TG := fun v σ H Q => ∃ H₀ Hf₀ ρ Hf d ρ', Rep K H₀ Hf₀ σ ρ H Hf /\ Has K Hf d v /\ γ d ρ = some ρ' /\ ∀ σ' H' Hf', Rep K H₀ Hf₀ σ' ρ' H' Hf' -> yo Hf Hf' -> Q σ' H'
abbrev FGs := List D -> Rho -> Option Rho
def tGs (K : W.Frag) (γ : FGs) : TGs := fun vs σ H Q => ∃ H₀ Hf₀ ρ Hf ds ρ', Rep K H₀ Hf₀ σ ρ H Hf /\ ya K Hf ds vs /\ γ ds ρ = some ρ' /\ ∀ σ' H' Hf', Rep K H₀ Hf₀ σ' ρ' H' Hf' -> yo Hf Hf' -> Q σ' H'
def DG (X : Cx) (tg : Expr) (γ : FG) : Prop := PG X tg (tG X.K γ)
def DGs (X : Cx) (ts : List Expr) (γ : FGs) : Prop := PGs X ts (tGs X.K γ)
theorem Hm {tg : Expr} {t t' : TG} (h : PG X tg t) (i : ∀ v σ H Q, t' v σ H Q -> t v σ H Q) : PG X tg t' := fun pins s σ H v u Q I r hw => h pins s σ H v u Q I r (i _ _ _ _ hw)
theorem Jf {ts : List Expr} {t t' : TGs} (h : PGs X ts t) (i : ∀ v σ H Q, t' v σ H Q -> t v σ H Q) : PGs X ts t' := fun pins s σ H v u Q I r hw => h pins s σ H v u Q I r (i _ _ _ _ hw)
def zJ (i : Nat) : FG := fun d ρ => some (ρ.set i (.fr d))
theorem zQ {x : Str} (i : Nat) (hN : X.N.Nodup) (hi : X.N[i]? = some x := by rfl) (hx : Loc X.env.scope x := by first | exact Or.inl rfl | exact Or.inr rfl) (hf : X.fn x = true \/ X.env.scope.names.lookup x = some .local := by first | exact .inl rfl | exact .inr rfl | assumption) : DG X (.Name x pos) (zJ i) :=
 Hm (Zi hN hi hx hf) fun v σ H Q ⟨H₀, Hf₀, ρ, Hf, d, ρ', R, h, q, k⟩ => by
  cases q
  exact k _ _ _ (R.set i h) zB
def Yf : FGs := fun ds ρ => match ds with
 | [] => some ρ
 | _ => none
def yU (γ : FG) (δ : FGs) : FGs := fun ds ρ => match ds with
 | d :: r => (γ d ρ).bind fun ρ' => δ r ρ'
 | _ => none
theorem qh : DGs X [] Yf := Jf Je fun v σ H Q ⟨H₀, Hf₀, ρ, Hf, ds, ρ', R, h, q, k⟩ => by
 cases ds with
 | nil => cases q; exact ⟨ya.nil_iff.mp h, k _ _ _ R zB⟩
 | cons _ _ => cases q
theorem yz {γ : FG} {δ : FGs} (h1 : DG X e γ) (h2 : DGs X es δ) (hs : (assignEach (e :: es) X.env).map (·.2) = assign e X.env :: (assignEach es X.env).map (·.2) := by rfl) : DGs X (e :: es) (yU γ δ) :=
 Jf (YS h1 h2 hs) fun v σ H Q ⟨H₀, Hf₀, ρ, Hf, ds, ρ', R, h, q, k⟩ => by
  cases ds with
  | nil => cases q
  | cons d r =>
   obtain ⟨x, xr, rfl, hx, hr⟩ := ya.cons_iff.mp h
   have q : (γ d ρ).bind (fun ρ' => δ r ρ') = some ρ' := q
   cases e1 : γ d ρ with
   | none => rw [e1] at q; cases q
   | some ρ1 =>
    rw [e1] at q
    exact ⟨x, xr, rfl, H₀, Hf₀, ρ, Hf, d, ρ1, R, hx, e1, fun σ1 H1 Hf1 R1 s1 => ⟨H₀, Hf₀, ρ1, Hf1, r, ρ', R1, hr.mono s1, q, fun σ2 H2 Hf2 R2 s2 => k _ _ _ R2 (s1.trans s2)⟩⟩
def ZT (n : Nat) (δ : FGs) : FG := fun d ρ => match d with
 | .tup ds => if ds.length = n then δ ds ρ else none
 | _ => none
theorem ky {kx n : Nat} {δ : FGs} (hc : X.calm = true) (h : DGs X es δ) (hn : (assignEach es X.env).length = n := by rfl) (hst : (assignEach es X.env).findIdx? (·.1) = none := by rfl) : DG X (.Tuple es kx pos) (ZT n δ) :=
 Hm (Hl hc h hn hst) fun v σ H Q ⟨H₀, Hf₀, ρ, Hf, d, ρ', R, h, q, k⟩ => by
  unfold ZT at q
  split at q
  ·split at q
   ·rename_i ds hl
    obtain ⟨a, xs, rfl, qa, la⟩ := Has.tup_iff.mp h
    exact ⟨a, xs, rfl, uT R.sf qa, by rw [la.length]; exact hl, H₀, Hf₀, ρ, Hf, ds, ρ', R, la, q, k⟩
   ·cases q
  ·cases q
end
def yK (γ : FG) (B : FS) : List D -> Rho -> Option Out
 | [], ρ => some (.nx ρ)
 | d :: ds, ρ => (γ d ρ).bind fun ρ1 => (B ρ1).bind fun o => match o with
  | .nx ρ2 => yK γ B ds ρ2
  | .ct ρ2 => yK γ B ds ρ2
  | .bk ρ2 => some (.nx ρ2)
  | .rt d => some (.rt d)
def kF (fi : FA) (γ : FG) (B : FS) : FS := fun ρ => (fi ρ).bind fun ds => yK γ B ds ρ
structure Grows (H Hf H' Hf' : Hp) : Prop where
 h : yo H H'
 f : yo Hf Hf'
 fh : yo Hf' H'
 new : ∀ b o, Hf' b = some o -> Hf b = some o \/ H b = none \/ Tp o
theorem Rep.grows {K : W.Frag} {H₀ Hf₀ : Hp} {σ : St} {ρ : Rho} {H Hf H' Hf' : Hp} (R : Rep K H₀ Hf₀ σ ρ H Hf) (g : Grows H Hf H' Hf') : Rep K H₀ Hf₀ σ ρ H' Hf' := R.grow g.h g.f g.fh g.new
theorem Grows.refl {H Hf : Hp} (h : yo Hf H) : Grows H Hf H Hf := ⟨zB, zB, h, fun _ _ e => .inl e⟩
def Walks (K : W.Frag) (Hf : Hp) (J : It) (ds : List D) : Prop :=
 ∀ (H' Hf' : Hp), yo Hf Hf' -> yo Hf' H' -> ∀ i : Nat, (∀ d, ds[i]? = some d -> J.go i H' /\ ∀ x H2, J.yld i H' x H2 -> ∃ Hf2, Grows H' Hf' H2 Hf2 /\ Has K Hf2 d x) /\ (ds.length <= i -> J.stop i H')
def tI (K : W.Frag) (fi : FA) : TI := fun σ H R' => ∃ H₀ Hf₀ ρ Hf ds, Rep K H₀ Hf₀ σ ρ H Hf /\ fi ρ = some ds /\ ∀ J H' Hf', Rep K H₀ Hf₀ σ ρ H' Hf' -> yo H H' -> yo Hf Hf' -> Walks K Hf' J ds -> R' J H'
def DI (X : Cx) (tg iter : Expr) (fi : FA) : Prop := PI X tg iter (tI X.K fi)
section
variable {X : Cx} {e a b c tg iter : Expr} {es : List Expr} {f g h : FE} {fa ga fi : FA} {ft gt : FT} {pos : Pos} {t t' : TE} {kk : Nat} {st : Stmt} {sts rest body : List Stmt} {F G B : FS} {γ : FG}
theorem Hk {t t' : TI} (h : PI X tg iter t) (i : ∀ σ H R, t' σ H R -> t σ H R) : PI X tg iter t' := fun pins s σ H R I hw => h pins s σ H R I (i _ _ _ hw)
theorem xZ (hp : PassesOwn (model X.prog X.w) X.A X.env X.xe) (hc : X.calm = true) (hi : DI X tg iter fi) (hg : DG X tg γ) (hb : DSs X body B)
  (hs : ∀ x, foldedSetIterable iter X.env x = pure x := by intro _; rfl) : DS X (.For tg iter body [] pos) (kF fi γ B) :=
 kl (VT hp hc hi hg hb hs) fun D' σ H ⟨H₀, Hf₀, ρ, Hf, o, R, q, k⟩ => by
  obtain ⟨ds, e1, e2⟩ := yZ q
  refine ⟨H₀, Hf₀, ρ, Hf, ds, R, e1, fun J H1 Hf1 R1 _ t1 wk => ?_⟩
  have k1 := k.mono t1
  refine ⟨fun i m σ H => m = ds.length - i /\ i <= ds.length /\ ∃ ρ Hf', Rep X.K H₀ Hf₀ σ ρ H Hf' /\ yo Hf1 Hf' /\ yK γ B (ds.drop i) ρ = some o, ⟨ds.length, by simp, g2e _, ρ, Hf1, R1, zB, by simpa using e2⟩, ?_⟩
  rintro i m σ2 H2 ⟨rfl, hi, ρ2, Hf2, R2, t2, el⟩
  obtain ⟨w1, w2⟩ := wk H2 Hf2 t2 R2.sf i
  by_cases hil : i < ds.length
  ·right
   have hd : ds[i]? = some ds[i] := g0z hil
   obtain ⟨go, yld⟩ := w1 _ hd
   refine ⟨go, ?_⟩
   rw [g1f hil] at el
   unfold yK at el
   cases eg : γ ds[i] ρ2 with
   | none => rw [eg] at el; cases el
   | some ρ3 =>
    rw [eg] at el
    simp only [g0a] at el
    obtain ⟨o1, eb, eo⟩ := j3 el
    refine ⟨fun σ' H' => ∃ ρ' Hf', Rep X.K H₀ Hf₀ σ' ρ' H' Hf' /\ yo Hf1 Hf' /\ yK γ B (ds.drop (i + 1)) ρ' = some o, ?_, ?_⟩
    ·rintro σ' H' ⟨ρ', Hf', R', t', e'⟩
     exact ⟨ds.length - (i + 1), by omega, rfl, hil, ρ', Hf', R', t', e'⟩
    ·intro x H3 hy
     obtain ⟨Hf3, gr, hx⟩ := yld x H3 hy
     refine ⟨H₀, Hf₀, ρ2, Hf3, ds[i], ρ3, R2.grows gr, hx, eg, fun σ4 H4 Hf4 R4 t4 => ?_⟩
     refine ⟨H₀, Hf₀, ρ3, Hf4, o1, R4, eb, ?_⟩
     have tt : yo Hf1 Hf4 := (t2.trans gr.f).trans t4
     cases o1 with
     | nx ρ5 => exact fun σ5 H5 Hf5 R5 t5 => ⟨ρ5, Hf5, R5, tt.trans t5, eo⟩
     | ct ρ5 => exact fun σ5 H5 Hf5 R5 t5 => ⟨ρ5, Hf5, R5, tt.trans t5, eo⟩
     | bk ρ5 => cases eo; exact fun σ5 H5 Hf5 R5 t5 => k1 _ _ _ R5 (tt.trans t5)
     | rt d => cases eo; exact fun v σ5 ρ5 H5 Hf5 R5 t5 h5 => k1 _ _ _ _ _ R5 (tt.trans t5) h5
  ·left
   have : ds.drop i = [] := List.drop_eq_nil_of_le (by omega)
   rw [this] at el
   cases el
   exact ⟨w2 (by omega), k1 _ _ _ R2 t2⟩
def zY (lo hi : Int) : List D := (g1e (hi - lo).toNat).map fun (k : Nat) => D.int (lo + (k : Int))
noncomputable def wV : List D -> Option (List D)
 | [.int j] => @ite _ (-(2 ^ 62) <= j /\ j < 2 ^ 62) (Classical.propDecidable _) (some (zY 0 j)) none
 | _ => none
noncomputable def ki : List D -> Option (List D)
 | [.int i, .int j] => @ite _ (-(2 ^ 62) <= i /\ i < 2 ^ 62 /\ -(2 ^ 62) <= j /\ j < 2 ^ 62) (Classical.propDecidable _) (some (zY i j)) none
 | _ => none
noncomputable def YO (fa : FA) : FA := fun ρ => (fa ρ).bind wV
noncomputable def CZ (fa : FA) : FA := fun ρ => (fa ρ).bind ki
theorem kY {K : W.Frag} {Hf : Hp} {lo : Int} {n : Nat} : Walks K Hf (Itr lo n) ((g1e n).map fun (k : Nat) => D.int (lo + (k : Int))) := fun H2 Hf2 t2 sf2 i => by
 refine ⟨fun d hd => ?_, fun hle => ?_⟩
 ·rw [g0w] at hd
  cases e : (g1e n)[i]? with
  | none => rw [e] at hd; cases hd
  | some j =>
   rw [e] at hd
   cases hd
   obtain ⟨h1, h2⟩ := g0y.mp e
   simp at h1 h2
   subst h2
   refine ⟨h1, fun x H3 hy => ?_⟩
   obtain ⟨rfl, rfl⟩ := hy
   exact ⟨Hf2, Grows.refl sf2, Has.int_iff.mpr rfl⟩
 ·show n <= i
  simpa using hle
theorem xk {p pos : Pos} (hg : Gl X "range") (hm : X.mg "range" = none) (ha : DAR X [a] fa) (hs : starEach [a] X.env = [(false, eval a X.env)] := by rfl) : DI X tg (.Call (.Name "range" p) [a] [] pos) (YO fa) :=
 Hk (Jd hg hm ha hs) fun σ H R' ⟨H₀, Hf₀, ρ, Hf, ds, R, q, k⟩ => by
  obtain ⟨l, e1, e2⟩ := yZ q
  unfold wV at e2
  split at e2
  ·split at e2
   ·cases e2
    rename_i j hj
    refine ⟨H₀, Hf₀, ρ, Hf, _, R, e1, fun vs H1 Hf1 R1 s1 t1 h1 => ?_⟩
    obtain ⟨v, rfl, hv⟩ := h1.one
    refine ⟨j, by rw [hv.int], hj.1, hj.2, k _ _ _ R1 s1 t1 ?_⟩
    have := kY (K := X.K) (Hf := Hf1) (lo := 0) (n := j.toNat)
    unfold zY
    rw [Int.sub_zero]
    exact this
   ·cases e2
  ·cases e2
theorem Wj {p pos : Pos} (hg : Gl X "range") (hm : X.mg "range" = none) (ha : DAR X [a, b] fa) (hs : starEach [a, b] X.env = [(false, eval a X.env), (false, eval b X.env)] := by rfl) (hs2 : starEach [b] X.env = [(false, eval b X.env)] := by rfl) :
  DI X tg (.Call (.Name "range" p) [a, b] [] pos) (CZ fa) :=
 Hk (Jc hg hm ha hs hs2) fun σ H R' ⟨H₀, Hf₀, ρ, Hf, ds, R, q, k⟩ => by
  obtain ⟨l, e1, e2⟩ := yZ q
  unfold ki at e2
  split at e2
  ·split at e2
   ·cases e2
    rename_i i j hj
    refine ⟨H₀, Hf₀, ρ, Hf, _, R, e1, fun vs H1 Hf1 R1 s1 t1 h1 => ?_⟩
    obtain ⟨v, v', rfl, hv, hv'⟩ := h1.two
    exact ⟨i, j, by rw [hv.int, hv'.int], hj, k _ _ _ R1 s1 t1 kY⟩
   ·cases e2
  ·cases e2
def jc (c : FT) (B : FS) : Nat -> Rho -> Option Out
 | 0, _ => none
 | n + 1, ρ => (c ρ).bind fun b => if b = true then (B ρ).bind fun o => match o with
   | .nx ρ2 => jc c B n ρ2
   | .ct ρ2 => jc c B n ρ2
   | .bk ρ2 => some (.nx ρ2)
   | .rt d => some (.rt d)
  else some (.nx ρ)
theorem GT (n : Nat) (hp : PassesOwn (model X.prog X.w) X.A X.env X.xe) (hc : DT X c ft) (hb : DSs X body B) : DS X (.While c body [] pos) (jc ft B n) :=
 kl (K3 hp hc hb) fun D' σ H ⟨H₀, Hf₀, ρ, Hf, o, R, q, k⟩ => by
  refine ⟨fun m σ H => ∃ ρ Hf', Rep X.K H₀ Hf₀ σ ρ H Hf' /\ yo Hf Hf' /\ jc ft B m ρ = some o, ⟨n, ρ, Hf, R, zB, q⟩, ?_⟩
  rintro m σ2 H2 ⟨ρ2, Hf2, R2, t2, e2⟩
  cases m with
  | zero => cases e2
  | succ m =>
   unfold jc at e2
   obtain ⟨b, e3, e4⟩ := vo e2
   refine ⟨H₀, Hf₀, ρ2, Hf2, b, R2, e3, fun H3 Hf3 R3 s3 t3 => ?_⟩
   have tt := t2.trans t3
   cases b with
   | false => cases e4; exact Gz (k _ _ _ R3 tt)
   | true =>
    obtain ⟨o1, e5, e6⟩ := j3 e4
    refine Gy ⟨fun σ' H' => ∃ ρ' Hf', Rep X.K H₀ Hf₀ σ' ρ' H' Hf' /\ yo Hf Hf' /\ jc ft B m ρ' = some o, fun σ' H' h => ⟨m, g2q _, h⟩, H₀, Hf₀, ρ2, Hf3, o1, R3, e5, ?_⟩
    cases o1 with
    | nx ρ5 => exact fun σ5 H5 Hf5 R5 t5 => ⟨ρ5, Hf5, R5, tt.trans t5, e6⟩
    | ct ρ5 => exact fun σ5 H5 Hf5 R5 t5 => ⟨ρ5, Hf5, R5, tt.trans t5, e6⟩
    | bk ρ5 => cases e6; exact fun σ5 H5 Hf5 R5 t5 => k _ _ _ R5 (tt.trans t5)
    | rt d => cases e6; exact fun v σ5 ρ5 H5 Hf5 R5 t5 h5 => k _ _ _ _ _ R5 (tt.trans t5) h5
def qp (i : Nat) (f : FE) : FS := fun ρ => (f ρ).bind fun d => match ρ[i]? with
 | some (.ol ds) => if ds.length < sizeLine then some (.nx (ρ.set i (.ol (ds ++ [d])))) else none
 | _ => none
theorem ZC {x : Str} {p1 apos cpos pos : Pos} (i : Nat) (he : DE X e f) (hN : X.N[i]? = some x := by rfl) (hv : Vis X.env.scope x := by first | exact Or.inl rfl | exact Or.inr (Or.inl rfl) | exact Or.inr (Or.inr rfl))
  (hd : (x == ("__debug__" : Str)) = false := by decide) (hcd : (x == ("__classdict__" : Str)) = false := by decide)
  (hbase : attributeBase (.Name x p1) "append" X.env (eval (.Name x p1) X.env) = eval (.Name x p1) X.env := by rfl)
  (hfew : ((backTo cpos (starEach [e] X.env)).all (fun x => !x.1) && (backToKw cpos (keywordEach [] X.env)).all (fun x => x.1.isSome)
   && decide (([e] : List Expr).length + ([] : List Keyword).length + (if ([] : List Keyword).isEmpty then 0 else 1) < 30)) = true := by rfl)
  (hline : (apos.endLine == cpos.line) = true := by rfl) (hst : starEach [e] X.env = (false, eval e X.env) :: starEach [] X.env := by rfl) (hplain : (backTo cpos (starEach [] X.env)).any (·.1) = false := by rfl)
  (hs : swapsWith (.Call (.Attribute (.Name x p1) "append" apos) [e] [] cpos) none pos.line X.env = pure false := by rfl) :
  DS X (.Expr (.Call (.Attribute (.Name x p1) "append" apos) [e] [] cpos) pos) (qp i f) :=
 kl (uZ (De PySem.F.plainAttrs_list PySem.F.slot_list_append PySem.F.type_list_append Zq (VX hN hv hd hcd) (z5 he xp hst) hbase hfew hline hst hplain) hs) fun D' σ H ⟨H₀, Hf₀, ρ, Hf, o, R, q, k⟩ => by
  obtain ⟨d, e1, e2⟩ := z8 q
  split at e2
  ·split at e2
   ·cases e2
    rename_i ds el hz
    obtain ⟨a, p1, ⟨xs, p2, p3⟩, p4, p5⟩ := R.ow i _ el rfl
    refine ⟨_, p1, .inl ⟨rfl, xs, SqL.of p2⟩, H₀, Hf₀, ρ, Hf, d, R, e1, fun v H1 Hf1 R1 s1 t1 h1 => ?_⟩
    obtain ⟨a', r1, ⟨ys, r2, r3⟩, r4, r5⟩ := R1.ow i _ el rfl
    rw [p1] at r1; cases r1
    refine ⟨a, ys, v, rfl, rfl, r2, by rw [r3.length]; exact hz, ?_⟩
    exact k _ _ _ (R1.updOwn el rfl p1 rfl ⟨_, zz, r3.append (.cons h1 .nil)⟩) t1
   ·cases e2
  ·cases e2
def Ny (i j : Nat) (fa : FA) : FS := fun ρ => (fa ρ).bind fun l => match l with
 | [d, d'] => some (.nx ((ρ.set i (.fr d)).set j (.fr d')))
 | _ => none
end
def spF (K : W.Frag) (n : Nat) (g : List D -> Option D) : Sp := fun vs H Q _ => ∃ Hf ds d, yo Hf H /\ ya K Hf ds vs /\ ds.length = n /\ g ds = some d /\ ∀ v H' Hf', Grows H Hf H' Hf' -> Has K Hf' d v -> Q v H'
def ke (n : Nat) (ds : List D) : Rho := ds.map Slot.fr ++ g0g (n - ds.length) Slot.no
def Qq (o : Option Out) : Option D := match o with
 | some (.rt d) => some d
 | some (.nx _) => some .non
 | _ => none
def vJ (m : Nat) (F : FS) : List D -> Option D := fun ds => Qq (F (ke m ds))
theorem Q5 {K : W.Frag} {N : List Str} {H Hf : Hp} {ds : List D} {vs : List V} (sf : yo Hf H) (h : ya K Hf ds vs) : Rep K H Hf (L2.start N vs) (ke N.length ds) H Hf where
 s0 := zB
 sf := sf
 nf := fun b o e => .inl e
 f0 := zB
 len := by unfold ke L2.start; simp [h.length]
 fr := fun i d e => by
  unfold ke at e
  unfold L2.start
  by_cases hi : i < ds.length
  ·rw [g1h (by simpa using hi)] at e
   rw [g0w] at e
   cases e1 : ds[i]? with
   | none => rw [e1] at e; cases e
   | some d' =>
    rw [e1] at e; cases e
    obtain ⟨v, e2, e3⟩ := h.get e1
    refine ⟨v, ?_, e3⟩
    have hl := h.length
    rw [g1h (by simp; omega), g0w, e2]
    rfl
  ·rw [g1a (by simpa using hi), g1x] at e
   split at e <;> cases e
 ow := fun i sl e o => by
  unfold ke at e
  by_cases hi : i < ds.length
  ·rw [g1h (by simpa using hi), g0w] at e
   cases e1 : ds[i]? with
   | none => rw [e1] at e; cases e
   | some d' => rw [e1] at e; cases e; cases o
  ·rw [g1a (by simpa using hi), g1x] at e
   split at e
   ·cases e; cases o
   ·cases e
 inj := fun i j sl sl' a e o e' o' _ _ => by
  unfold ke at e
  by_cases hi : i < ds.length
  ·rw [g1h (by simpa using hi), g0w] at e
   cases e1 : ds[i]? with
   | none => rw [e1] at e; cases e
   | some d' => rw [e1] at e; cases e; cases o
  ·rw [g1a (by simpa using hi), g1x] at e
   split at e
   ·cases e; cases o
   ·cases e
section
variable {P : Program} {w : World} {K : W.Frag} {mg : Str -> Option Value} {base : Heap}
theorem yb {x qual : Str} {st : Stmt} {f : Addr} {fd : FuncData} {N ps : List Str} {k m n : Nat} {F : FS} (hm : N.length = m) (hn : ps.length = n) (Fn : Fun K x qual st f fd) (S : FnScope N ps (zd st))
  (body : ∀ (cdv : Value) (A : Around) (outer : List Env) (s : Shared) (H : Hp) (E : XK), Room k (A.deeper (envOfC qual (zd st) s.heap.objs.size f cdv)) →
   DSs (GY CX0 P w K mg base N qual (zd st) f cdv A outer s H E).nox (zy st) F) :
  FnOk P w K mg base CX0 (k + 1) f fd ps (spF K n (vJ m F)) := by
 subst hm hn
 refine Fn.ok S (fun vs H Q E h => ?_) (fun cdv A outer s H vs Q E hr h => ?_)
 ·obtain ⟨Hf, ds, d, _, h1, h2, _⟩ := h
  rw [h1.length]; exact h2
 ·obtain ⟨Hf, ds, d, sf, h1, h2, h3, q⟩ := h
  refine ⟨_, body cdv A outer s H E hr, ?_⟩
  unfold vJ Qq at h3
  have R := Q5 (N := N) sf h1
  have fin : ∀ (v : V) (σ' : St) (ρ' : Rho) (H' Hf' : Hp), Rep K H Hf σ' ρ' H' Hf' -> Has K Hf' d v -> Q v H' := fun v σ' ρ' H' Hf' R' hv => q v H' Hf' ⟨R'.s0, R'.f0, R'.sf, R'.nf⟩ hv
  split at h3
  ·cases h3
   rename_i d e
   exact ⟨H, Hf, _, Hf, _, R, e, fun v σ' ρ' H' Hf' R' _ hv => fin v σ' ρ' H' Hf' R' hv⟩
  ·cases h3
   rename_i ρ' e
   exact ⟨H, Hf, _, Hf, _, R, e, fun σ' H' Hf' R' _ => fin _ σ' ρ' H' Hf' R' (Has.non_iff.mpr rfl)⟩
  ·cases h3
end
section
variable {X : Cx} {e : Expr} {es : List Expr} {fa : FA} {pos : Pos}
theorem Fd {CX : CXT} {k : Nat} {f : Addr} {fd : FuncData} {ps : List Str} {g : List D -> Option D} {E : XK} {x : Str} {p : Pos} {n : Nat} (Fn : FnOk X.prog X.w X.K X.mg X.base CX k f fd ps (spF X.K n g)) (hr : Room k X.A) (hg : Gl X x) (hm : X.mg x = some (.ref f))
  (hk : W.keepIn X.K (.ref f) = true) (hb : uO X.K fd ps []) (hx : kA CX X E) (ha : DA X (e :: es) fa) (hn : ∀ ρ ds, fa ρ = some ds -> ds.length = n)
  (hdb : (x == ("__debug__" : Str)) = false := by decide) (he : starEach (e :: es) X.env = (false, eval e X.env) :: starEach es X.env := by rfl) (hpl : (backTo pos (starEach es X.env)).any (·.1) = false := by rfl) :
  DE X (.Call (.Name x p) (e :: es) [] pos) (zO g fa) :=
 yW (Zk Fn hr hg hm hk hb .nil hx ha hdb he hpl) fun σ H Q ⟨H₀, Hf₀, ρ, Hf, d, R, q, k⟩ => by
  obtain ⟨ds, e1, e2⟩ := yZ q
  refine ⟨H₀, Hf₀, ρ, Hf, ds, R, e1, fun vs H1 Hf1 R1 s1 t1 h1 => ?_⟩
  show spF X.K n g (vs ++ []) H1 Q E
  rw [g0t]
  exact ⟨Hf1, ds, d, R1.sf, h1, hn ρ ds e1, e2, fun v H2 Hf2 gr hv => k _ _ _ (R1.grows gr) (s1.trans gr.h) (t1.trans gr.f) hv⟩
end
theorem zX : ∀ (ρ : Rho) (ds : List D), zu ρ = some ds -> ds.length = 0 := fun ρ ds h => by cases h; rfl
theorem zo {f : FE} {g : FA} {n : Nat} (h : ∀ (ρ : Rho) (ds : List D), g ρ = some ds -> ds.length = n) : ∀ (ρ : Rho) (ds : List D), zb f g ρ = some ds -> ds.length = n + 1 := fun ρ ds q => by
 obtain ⟨x, xs, _, e2, rfl⟩ := j0 q
 simp [h ρ xs e2]
theorem law_sp {K : W.Frag} {g : List D -> Option D} {H : Hp} {a : Addr} {ns : List Int} (hq : SqL K H a (ns.map V.int)) (hg : g [.lst (ns.map D.int)] = some (.bl true)) : spF K 1 g [.ref a] H (fun v _ => v = .bl true) fun _ _ _ => False :=
 ⟨H, [.lst (ns.map D.int)], .bl true, zB, .cons (Has.lst_iff.mpr ⟨a, _, rfl, hq, ya.ints ns⟩) .nil, rfl, hg, fun v H' Hf' _ hv => Has.bl_iff.mp hv⟩
def tyN : D -> String
 | .non => "NoneType"
 | .bl _ => "bool"
 | .int _ => "int"
 | .str _ => "str"
 | .tup _ => "tuple"
 | .lst _ => "list"
def WQ (t T : String) : Bool := t == T || (t == "bool" && T == "int")
def Hy (T : String) (d : D) : Option D := some (.bl (WQ (tyN d) T))
def CA (T : String) : Prop := ∀ (K : W.Frag) (d : D), PySem.W.kitOne K (.type (tyN d)) (.type T) = some (WQ (tyN d) T)
theorem CD : CA "int" := fun K d => by cases d <;> kernel_rfl
theorem HM : CA "bool" := fun K d => by cases d <;> kernel_rfl
theorem KD : CA "tuple" := fun K d => by cases d <;> kernel_rfl
theorem HL : CA "list" := fun K d => by cases d <;> kernel_rfl
section
variable {X : Cx} {pins : List (Addr × Obj)} {σ : St} {H : Hp} {s : Shared} {A : Around} {E : Value -> Shared -> Prop} {Q : Value -> Shared -> Prop} {c : Value} {b : Bool}
theorem GA {d : D} {v : V} {u : Value} (I : Inv X pins σ H s) (hd : Has X.K H d v) (rx : xU v u) (e : PySem.W.kitOne X.K (.type (tyN d)) c = some b) (h : ∀ tk, Q (.bool b) { s with toks := tk }) :
  wpAny (model X.prog X.w) A (call (.builtin "isinstance") [u, c]) Q E s := by
 cases d with
 | non => rw [Has.non_iff] at hd; subst hd; cases rx; exact PySem.W.kia_one PySem.W.kitx_none I.kIn True.intro e (fun z => nomatch z) h
 | bl y => rw [Has.bl_iff] at hd; subst hd; cases rx; exact PySem.W.kia_one PySem.W.kitx_bool I.kIn True.intro e (fun z => nomatch z) h
 | int y => rw [Has.int_iff] at hd; subst hd; obtain ⟨t, rfl⟩ := rx; exact PySem.W.kia_one PySem.W.kitx_int I.kIn True.intro e (fun z => nomatch z) h
 | str y => rw [Has.str_iff] at hd; subst hd; obtain ⟨t, rfl⟩ := rx; exact PySem.W.kia_one PySem.W.kitx_str I.kIn True.intro e (fun z => nomatch z) h
 | tup ds =>
  obtain ⟨a, xs, rfl, q, _⟩ := Has.tup_iff.mp hd
  cases rx
  obtain ⟨its, _, ⟨o, h1, h2, _⟩, _⟩ := I.tuple q
  exact PySem.W.kia_one PySem.W.kitx_tuple I.kIn ⟨o, h1, h2⟩ e (fun z => nomatch z) h
 | lst ds =>
  obtain ⟨a, xs, rfl, q, _⟩ := Has.lst_iff.mp hd
  cases rx
  obtain ⟨its, _, ⟨o, n, h1, h2, _⟩, _⟩ := I.list q
  exact PySem.W.kia_one PySem.W.kitx_list I.kIn ⟨o, h1, h2⟩ e (fun z => nomatch z) h
end
section
variable {X : Cx} {e a b c : Expr} {es : List Expr} {f g h : FE} {fa ga : FA} {pos : Pos}
theorem Ko {T : String} (hT : CA T) : uN X (.builtin "isinstance") (fun xs H Q => ∃ v d, xs = [v, .ty T] /\ Has X.K H d v /\ Q (.bl (WQ (tyN d) T)) H) := by
 intro pins s σ H xs us Q I r h
 obtain ⟨v, d, rfl, hd, q⟩ := h
 obtain ⟨u, w', rfl, rx, ry⟩ := HK r
 cases ry
 exact GA I hd rx (hT X.K d) fun tk => ⟨.bl _, H, I.tok _, rfl, q⟩
theorem Ul {T : String} {x y : Str} {p p2 : Pos} (hT : CA T) (ha : DR X a f) (hg : Gl X x) (hm : X.mg x = none) (hg2 : Gl X y) (hm2 : X.mg y = none) (hv : bootBuiltins x = some (.builtin "isinstance") := by rfl) (hv2 : bootBuiltins y = some (.type T) := by rfl)
  (hn : x ≠ "__name__" := by decide) (hdb : (x == ("__debug__" : Str)) = false := by decide) (hn2 : y ≠ "__name__" := by decide) (hdb2 : (y == ("__debug__" : Str)) = false := by decide)
  (he : starEach [a, .Name y p2] X.env = (false, eval a X.env) :: starEach [.Name y p2] X.env := by rfl) (he2 : starEach [.Name y p2] X.env = (false, eval (.Name y p2) X.env) :: starEach [] X.env := by rfl) (hpl : (backTo pos (starEach [.Name y p2] X.env)).any (·.1) = false := by rfl) :
  DE X (.Call (.Name x p) [a, .Name y p2] [] pos) (y0 (Hy T) f) :=
 yW (YT (Ko hT) hg hm hv (z5 ha (z5 (Bm (v := .ty T) hg2 hm2 hv2 rfl hn2 hdb2) xp he2) he) hn hdb he hpl) fun σ H Q ⟨H₀, Hf₀, ρ, Hf, d, R, q, k⟩ => by
  obtain ⟨x, e1, e2⟩ := z8 q
  cases e2
  exact ⟨H₀, Hf₀, ρ, Hf, x, R, e1, fun v H1 Hf1 R1 s1 t1 h1 => ⟨v, x, rfl, h1.full R1, k _ _ _ R1 s1 t1 (Has.bl_iff.mpr rfl)⟩⟩
theorem Kk {x z : Str} {pos : Pos} (hg : Gl X x) (hm : ∃ t, X.mg x = some (.str z t)) (hd : (x == ("__debug__" : Str)) = false := by decide) : DE X (.Name x pos) (cF (.str z)) := by
 obtain ⟨t, hm⟩ := hm
 exact HE hg hm rfl ⟨t, rfl⟩ hd
theorem HF {x : Str} {z : Int} {pos : Pos} (hg : Gl X x) (hm : ∃ t, X.mg x = some (.int z t)) (hd : (x == ("__debug__" : Str)) = false := by decide) : DE X (.Name x pos) (cF (.int z)) := by
 obtain ⟨t, hm⟩ := hm
 exact HE hg hm rfl ⟨t, rfl⟩ hd
end
structure HasFn (P : Program) (w : World) (K : W.Frag) (mg : Str -> Option Value) (base : Heap) (k : Nat) (x : Str) (n : Nat) (g : List D -> Option D) : Prop where
 ex : ∃ (f : Addr) (fd : FuncData) (ps : List Str), FnOk P w K mg base CX0 k f fd ps (spF K n g) /\ mg x = some (.ref f) /\ W.keepIn K (.ref f) = true /\ uO K fd ps []
theorem zr {X : Cx} {e : Expr} {es : List Expr} {fa : FA} {pos : Pos} {k : Nat} {g : List D -> Option D} {x : Str} {p : Pos} {n : Nat} (Fn : HasFn X.prog X.w X.K X.mg X.base k x n g) (hr : Room k X.A) (hg : Gl X x) (ha : DA X (e :: es) fa) (hn : ∀ ρ ds, fa ρ = some ds -> ds.length = n)
  (hdb : (x == ("__debug__" : Str)) = false := by decide) (he : starEach (e :: es) X.env = (false, eval e X.env) :: starEach es X.env := by rfl) (hpl : (backTo pos (starEach es X.env)).any (·.1) = false := by rfl) :
  DE X (.Call (.Name x p) (e :: es) [] pos) (zO g fa) := by
 obtain ⟨f, fd, ps, h1, h2, h3, h4⟩ := Fn.ex
 exact Fd h1 hr hg h2 h3 h4 kD ha hn hdb he hpl
theorem Yh {n k : Nat} (h : n < 2 ^ k) (hk : k <= 8000) : n < big := g1c h (g2i (by decide) hk)
theorem u6 {i j : Int} (h1 : i.natAbs < big) (h2 : j.natAbs < big) : Qo i j := .inr (.inr ⟨h1, h2⟩)
theorem vV {i j : Int} (h1 : -(2 ^ 64) < i) (h2 : i < 2 ^ 64) : Qo i j := .inl (by omega)
theorem JA {i j : Int} (h1 : -(2 ^ 64) < j) (h2 : j < 2 ^ 64) : Qo i j := .inr (.inl (by omega))
theorem xg {i j : Int} (h : Qo i j) : wJ (.int i) (.int j) = some (.int (i * j)) := by
 show (if Qo i j then _ else _) = _
 rw [if_pos h]
theorem y4 {i j : Int} (h : 0 < j) : qQ (.int i) (.int j) = some (.int (i % j)) := by
 show (if 0 < j then _ else _) = _
 rw [if_pos h]
theorem vP {i j : Int} (h : 0 < j) (h2 : j < 2 ^ 64) : qU (.int i) (.int j) = some (.int (i / j)) := by
 show (if CB j then _ else _) = _
 rw [if_pos ⟨h, h2⟩]
theorem Bh {i j : Int} (h : Cr i j) : Cw (.int i) (.int j) = some (.int (i ^ j.toNat)) := by
 show (if Cr i j then _ else _) = _
 rw [if_pos h]
theorem BZ {i j : Int} : eqF (.int i) (.int j) = some (.bl (decide (i = j))) := by unfold eqF; simp [dep, eqD]; rfl
theorem BF {i j : Int} : neF (.int i) (.int j) = some (.bl (!decide (i = j))) := by unfold neF; simp [dep, eqD]; rfl
theorem qC {lo hi : Int} {i : Nat} {d : D} (h : (zY lo hi)[i]? = some d) : d = .int (lo + i) /\ (i : Int) < hi - lo := by
 unfold zY at h
 rw [g0w] at h
 cases e : (g1e (hi - lo).toNat)[i]? with
 | none => rw [e] at h; cases h
 | some j =>
  rw [e] at h
  cases h
  obtain ⟨h1, h2⟩ := g0y.mp e
  simp at h1 h2
  subst h2
  exact ⟨rfl, by omega⟩
theorem w5 (lo hi : Int) : (zY lo hi).length = (hi - lo).toNat := by simp [zY]
def qj (env : Env) : List (Str × NameKind) -> List (Str × Addr) -> Option (List (Str × Addr))
 | [], cs => some cs
 | (n, k) :: r, cs => if k == .free then match env.cells.lookup n with
   | some c => qj env r ((n, c) :: cs)
   | none => none
  else qj env r cs
def qk (env : Env) : (Str × NameKind) -> List (Str × Addr) -> Sem (ForInStep (List (Str × Addr))) := fun x c => match x with
 | (name, kind) => if (kind == NameKind.free) = true then do let a ← cellOf env name; pure (ForInStep.yield ((name, a) :: c)) else pure (ForInStep.yield c)
theorem ZZ {env : Env} {n : Str} {k : NameKind} {c : Addr} {cs : List (Str × Addr)} (hk : (k == NameKind.free) = true) (hc : env.cells.lookup n = some c) : qk env (n, k) cs = pure (.yield ((n, c) :: cs)) := by
 unfold qk cellOf
 simp only [hk, if_true, hc]
 rfl
theorem Wn {env : Env} {n : Str} {k : NameKind} {cs : List (Str × Addr)} (hk : (k == NameKind.free) = false) : qk env (n, k) cs = pure (.yield cs) := by
 unfold qk
 simp only [hk, g0l, if_false]
theorem j2 {env : Env} : ∀ (l : List (Str × NameKind)) (cs cl : List (Str × Addr)), qj env l cs = some cl -> (forIn l cs (qk env) : Sem (List (Str × Addr))) = pure cl
 | [], cs, cl, h => by cases h; rfl
 | (n, k) :: r, cs, cl, h => by
  rw [List.forIn_cons]
  unfold qj at h
  cases hk : k == NameKind.free with
  | true =>
   rw [hk] at h
   cases hc : env.cells.lookup n with
   | none => rw [hc] at h; cases h
   | some c =>
    rw [hc] at h
    rw [ZZ hk hc]
    exact j2 r _ cl h
  | false =>
   rw [hk] at h
   rw [Wn hk]
   exact j2 r _ cl h
theorem Xb {scope : Scope} {env : Env} {cl : List (Str × Addr)} (h : qj env scope.names [] = some cl) : closureFor scope env = pure cl := by
 have e := j2 (env := env) scope.names [] cl h
 unfold closureFor
 simp only [bind_pure]
 exact e
theorem j1 {env : Env} : ∀ (l : List (Str × NameKind)) (cs : List (Str × Addr)), (∀ n, (n, NameKind.free) ∈ l -> ∃ c, env.cells.lookup n = some c) -> (∀ x c, cs.lookup x = some c -> env.cells.lookup x = some c) →
    ∃ cl, qj env l cs = some cl /\ (∀ x c, cl.lookup x = some c -> env.cells.lookup x = some c) /\ (∀ x c, cs.lookup x = some c -> ∃ c', cl.lookup x = some c') /\ ∀ n, (n, NameKind.free) ∈ l -> ∃ c, cl.lookup n = some c
  | [], cs, _, h2 => ⟨cs, rfl, h2, fun x c e => ⟨c, e⟩, fun n hn => by cases hn⟩
  | (n, k) :: r, cs, h1, h2 => by
    cases hk : k == NameKind.free with
    | true =>
      have hkf : k = .free := by simpa using hk
      subst hkf
      obtain ⟨c, hc⟩ := h1 n g0s
      obtain ⟨cl, e1, e2, e3, e4⟩ := j1 r ((n, c) :: cs) (fun m hm => h1 m (g0m _ hm)) (fun x d e => by
        rw [g1w] at e
        cases hx : x == n with
        | true => rw [hx] at e; cases e; have : x = n := by simpa using hx
                  rw [this]; exact hc
        | false => rw [hx] at e; exact h2 x d e)
      refine ⟨cl, by unfold qj; rw [hk, hc]; exact e1, e2, fun x d e => ?_, fun m hm => ?_⟩
      · cases hx : x == n with
        | true => exact e3 x c (by rw [g1w, hx])
        | false => exact e3 x d (by rw [g1w, hx]; exact e)
      · rcases g0q.mp hm with q | q
        · cases q; exact e3 n c (by rw [g1w]; simp)
        · exact e4 m q
    | false =>
      obtain ⟨cl, e1, e2, e3, e4⟩ := j1 r cs (fun m hm => h1 m (g0m _ hm)) h2
      refine ⟨cl, by unfold qj; rw [hk]; exact e1, e2, e3, fun m hm => ?_⟩
      rcases g0q.mp hm with q | q
      · cases q; simp at hk
      · exact e4 m q
structure CompScope (osc : Scope) (scope : Scope) (own frees : List Str) : Prop where
 kind : scope.kind = .function
 nocell : ∀ y ∈ scope.names, y.2 ≠ .cell
 loc : ∀ y ∈ scope.names, y.2 = .local -> scope.names.lookup y.1 = some .local
 free : ∀ y ∈ scope.names, y.2 = .free -> osc.names.lookup y.1 = some .cell \/ osc.names.lookup y.1 = some .free
 capt : ∀ x ∈ frees, (osc.names.lookup x = some .cell \/ osc.names.lookup x = some .free) /\ scope.names.lookup x = some .free
theorem Yj {α : Type} : ∀ {l : List (Str × α)} {x : Str} {k : α}, l.lookup x = some k -> (x, k) ∈ l
  | [], _, _, h => by simp at h
  | (n, k) :: r, x, k', h => by
    rw [g1w] at h
    cases hx : x == n with
    | true => rw [hx] at h; cases h; have : x = n := by simpa using hx
              subst this; exact g0s
    | false => rw [hx] at h; exact g0m _ (Yj h)
theorem Ya {env : Env} {x : Str} : ∀ {l : List (Str × NameKind)}, (∀ y ∈ l, y.2 ≠ .cell) →
    ((l.map fun (n, k) => if (k == NameKind.free && env.scope.kind == .function && env.kindOf n == some .cell) then (n, NameKind.cell) else (n, k)).lookup x = some .cell ∨
     (l.map fun (n, k) => if (k == NameKind.free && env.scope.kind == .function && env.kindOf n == some .cell) then (n, NameKind.cell) else (n, k)).lookup x = some .free) -> (x, NameKind.free) ∈ l
  | [], _, h => by simp at h
  | (n, k) :: r, hc, h => by
    have ih := @Ya env x r (fun y hy => hc y (g0m _ hy))
    have hk : k ≠ .cell := hc (n, k) g0s
    rw [g0f] at h
    by_cases hq : (k == NameKind.free && env.scope.kind == .function && env.kindOf n == some .cell) = true
    · simp only [hq, if_true, g1w] at h
      cases hx : x == n with
      | true =>
        have e1 : x = n := by simpa using hx
        have e2 : k = .free := by simp at hq; exact hq.1.1
        subst e1 e2; exact g0s
      | false => rw [hx] at h; exact g0m _ (ih h)
    · simp only [hq, g0l, if_false, g1w] at h
      cases hx : x == n with
      | true =>
        rw [hx] at h
        have e1 : x = n := by simpa using hx
        subst e1
        rcases h with h | h
        · cases h; exact absurd rfl hk
        · cases h; exact g0s
      | false => rw [hx] at h; exact g0m _ (ih h)
theorem kh {env : Env} {x : Str} : ∀ {l : List (Str × NameKind)}, l.lookup x = some .free →
    ((l.map fun (n, k) => if (k == NameKind.free && env.scope.kind == .function && env.kindOf n == some .cell) then (n, NameKind.cell) else (n, k)).lookup x = some .cell ∨
     (l.map fun (n, k) => if (k == NameKind.free && env.scope.kind == .function && env.kindOf n == some .cell) then (n, NameKind.cell) else (n, k)).lookup x = some .free)
  | [], h => by simp at h
  | (n, k) :: r, h => by
    have ih := @kh env x r
    rw [g0f]
    rw [g1w] at h
    by_cases hq : (k == NameKind.free && env.scope.kind == .function && env.kindOf n == some .cell) = true
    · simp only [hq, if_true, g1w]
      cases hx : x == n with
      | true => exact .inl rfl
      | false => rw [hx] at h; exact ih h
    · simp only [hq, g0l, if_false, g1w]
      cases hx : x == n with
      | true => rw [hx] at h; exact .inr h
      | false => rw [hx] at h; exact ih h
theorem Wm {prog : Program} {w : World} {A : Around} {R : Result -> Shared -> Prop} {s : Shared} {elt target iter : Expr} {ifs : List Expr} {scope : Scope} {pos : Pos} {it acc : Value} {env : Env} (I : Nat -> Shared -> Prop)
  (turn : ∀ n s, I n s -> wpAny (model prog w) A (pyNext it) (fun r s₁ => match r with
   | none => R (.ok .next) s₁
   | some v => wpAny (model prog w) A (letOwnedTupleGo target it v) (fun _ s₁' => wpAny (model prog w) A (assign target env v) (fun _ s₂ =>
     wpAny (model prog w) A (forIn ifs true fun c r => if r = true then do let ok ← isTrue c env (eval c env); pure (ForInStep.yield ok) else pure (ForInStep.yield r)) (fun ok s₃ =>
      if ok = true then wpAny (model prog w) A (eval elt env) (fun x s₄ =>
       wpAny (model prog w) A (call (.builtin "list.append") [acc, x]) (fun _ s₅ => ∃ m, m < n /\ I m s₅) (fun _ _ => False) s₄) (fun _ _ => False) s₃
      else ∃ m, m < n /\ I m s₃) (fun _ _ => False) s₂) (fun _ _ => False) s₁') (fun _ _ => False) s₁) (fun _ _ => False) s)
  (n : Nat) (h : I n s) :
  codeAny (model prog w) A (.compLoop (.ListComp elt [⟨target, iter, ifs, 0⟩] scope pos) 0 it acc env) R s := by
 refine codeAny_loop rfl I (fun n s hI => ?_) n h
 show wpAny _ A ((compTurn (.ListComp elt [⟨target, iter, ifs, 0⟩] scope pos) 0 it acc env).onRaise (fun x => do noteFrame x env; theTreesLotGoes x)) _ _ s
 refine wpAny_noted ?_
 rw [compTurn_list]
 refine wpAny_bind (wpAny_standAt (wpAny_bind (wpAny_mono (turn n s hI) (fun r s₁ h₁ => ?_) fun _ _ h' => h'.elim)))
 cases r with
 | none => exact wpAny_pure h₁
 | some v =>
  refine wpAny_bind (wpAny_mono h₁ (fun _ s₁' h₁' => ?_) fun _ _ h' => h'.elim)
  refine wpAny_bind (wpAny_mono h₁' (fun _ s₂ h₂ => wpAny_bind (wpAny_mono h₂ (fun ok s₃ h₃ => ?_) fun _ _ h' => h'.elim)) fun _ _ h' => h'.elim)
  cases ok with
  | false => exact wpAny_pure ⟨rfl, h₃⟩
  | true =>
   exact wpAny_bind (wpAny_bind (wpAny_mono h₃ (fun x s₄ h₄ => wpAny_bind (wpAny_mono h₄ (fun _ s₅ h₅ => wpAny_pure (wpAny_pure ⟨rfl, h₅⟩)) fun _ _ h' => h'.elim)) fun _ _ h' => h'.elim))
def cxC (X : Cx) (scope : Scope) (cl : List (Str × Addr)) (C : Addr) (N : List Str) (s : Shared) (H : Hp) (fp : List Addr) : Cx :=
 { X with N := N, s₀ := s, H₀ := H, env := compEnvC scope cl C X.env, outer := X.stack, stack := X.stack, ex := fp, fn := fun _ => false, pn := [], xe := fun _ _ => False }
def Fh (ρ : Rho) (j : Nat) : Slot := match ρ[j]? with
 | some (.fr d) => .fr d
 | _ => .no
def xS (γ : FG) (ft : FT) (f : FE) : List D -> Rho -> Option (List D)
 | [], _ => some []
 | d :: ds, ρ => (γ d ρ).bind fun ρ1 => (ft ρ1).bind fun b => if b = true then (f ρ1).bind fun y => (xS γ ft f ds ρ1).bind fun ys => some (y :: ys) else xS γ ft f ds ρ1
def vY (n : Nat) (caps : List Nat) (ρ : Rho) : Rho := g0g n .no ++ caps.map (Fh ρ)
def qi (n : Nat) (caps : List Nat) (fi : FA) (γ : FG) (ft : FT) (f : FE) : FA := fun ρ => (fi ρ).bind fun ds => if ds.length <= sizeLine then xS γ ft f ds (vY n caps ρ) else none
def DQ (X : Cx) (ifs : List Expr) (ft : FT) : Prop :=
 ∀ (pins : List (Addr × Obj)) (s : Shared) (σ : St) (H : Hp) (Q : Bool -> Hp -> Prop), Inv X pins σ H s -> tT X.K ft σ H Q →
  wpAny (model X.prog X.w) X.A (forIn ifs true fun c r => if r = true then do let ok ← isTrue c X.env (eval c X.env); pure (ForInStep.yield ok) else pure (ForInStep.yield r)) (TP X pins σ Q) X.xe s
def ttF : FT := fun _ => some true
theorem qO {X : Cx} : DQ X [] ttF := fun pins s σ H Q I h => by
 obtain ⟨H₀, Hf₀, ρ, Hf, b, R, q, k⟩ := h
 cases q
 exact wpAny_tests_nil ⟨H, I, k _ _ R zB zB⟩
def Xa (n : Nat) (caps : List Nat) (σ : St) : St := g0g n none ++ caps.map (fun j => σ.getD j none)
section
variable {X : Cx} {scope : Scope} {own frees : List Str} {caps : List Nat} {cl : List (Str × Addr)}
theorem Fe {pins : List (Addr × Obj)} {s : Shared} {σ : St} {H : Hp} {fp : List Addr} {C : Addr} {N : List Str} (I : Inv X pins σ H s) (S : CompScope X.env.scope scope own frees) (hfp : ∀ b ∈ fp, q9 X pins H b) (hfo : ∀ b ∈ fp, b < s.heap.objs.size)
  (c1 : ∀ x c, cl.lookup x = some c -> X.env.cells.lookup x = some c) (c2 : ∀ n, (n, NameKind.free) ∈ scope.names -> ∃ c, cl.lookup n = some c) (hC : s.heap.objs.size <= C) : (cxC X scope cl C N s H fp).Ok where
 mod := I.ok.mod
 kind := S.kind
 glob := I.ok.glob
 blt := I.ok.blt
 above := hC
 inj := fun x y c e1 e2 => I.ok.inj x y c (c1 x c e1) (c1 y c e2)
 has := fun x hx => c2 x (Ya S.nocell hx)
 cab := fun x c h => by cases h
 hd := I.ok.hd
 frames := I.ok.frames
 stk := .inl rfl
 exf := fun b hb => ⟨g1g (g1c (hfo b hb) hC), fun x c e => (hfp b hb).2.2.2.2.1 x c (c1 x c e)⟩
 bs := I.bs
 bsz := g2a I.ok.bsz I.sz
 noex := fun b o e hb => by
  rcases (hfp b hb).2.2.2.1 with z | z
  ·exact I.ok.noex b o e z
  ·exact absurd (g1c (Heap.lt_size e) (g2a I.ok.bsz z)) (g2w _)
 exfs := fun b hb z => by
  rcases g0q.mp (I.stkSub b z) with q | q
  ·exact (hfp b hb).2.1 q
  ·exact (hfp b hb).2.2.1 q
 funs := I.stack
 frf := I.stkFree
theorem BL {caps : List Nat} {N : List Str} {frees : List Str} (h : caps.map (fun j => N[j]?) = frees.map some) {k : Nat} {x : Str} (e : frees[k]? = some x) : ∃ j, caps[k]? = some j /\ N[j]? = some x := by
 have := congrArg (fun l => l[k]?) h
 simp only [g0w, e, g1o] at this
 cases hc : caps[k]? with
 | none => rw [hc] at this; cases this
 | some j => rw [hc] at this; exact ⟨j, rfl, by simpa using this⟩
theorem Ci {pins : List (Addr × Obj)} {s : Shared} {σ : St} {H : Hp} {fp : List Addr} {h' : Heap} {t' : Nat} (I : Inv X pins σ H s) (S : CompScope X.env.scope scope own frees) (hcap : caps.map (fun j => X.N[j]?) = frees.map some) (hfp : ∀ b ∈ fp, q9 X pins H b) (hfo : ∀ b ∈ fp, b < s.heap.objs.size)
  (c1 : ∀ x c, cl.lookup x = some c -> X.env.cells.lookup x = some c) (c2 : ∀ n, (n, NameKind.free) ∈ scope.names -> ∃ c, cl.lookup n = some c) {C : Addr} (hC : C = s.heap.objs.size + 1) (hns : h'.Ns C fun _ => none)
  (hsb : Heap.SameBut C ((s.heap.push { cls := .type "list", dict := none, data := .seq #[] }).push { cls := .type "dict", data := .dict #[] }) h') :
  Inv (cxC X scope cl C (own ++ frees) s H fp) [] (Xa own.length caps σ) (upd H s.heap.objs.size (.lst [])) { s with heap := h', toks := t' } := by
 have hk : ∀ b u, s.heap.get? b = some u -> h'.get? b = some u := fun b u e => (hsb.2 b (by rw [hC]; exact g1g (Nat.lt_succ_of_lt (Heap.lt_size e)))).trans (Heap.get?_push_of_some _ (Heap.get?_push_of_some _ e))
 have hD : h'.get? s.heap.objs.size = some { cls := .type "list", dict := none, data := .seq #[] } := (hsb.2 _ (by rw [hC]; exact g1g (g2q _))).trans (Heap.get?_push_of_some _ (Heap.get?_push_size _ rfl))
 have hfD : H s.heap.objs.size = none := I.hok.fresh (g0r _)
 have hfC : H C = none := I.hok.fresh (by rw [hC]; exact Nat.le_succ _)
 have hCD : C ≠ s.heap.objs.size := by rw [hC]; exact Nat.succ_ne_self _
 have new : qq X.prog X.w (upd H s.heap.objs.size (.lst [])) h' s.heap.objs.size (.lst []) := ⟨by decide, [], 0, .nil, hD⟩
 refine ⟨Fe I S hfp hfo c1 c2 (by rw [hC]; exact Nat.le_succ _), rfl, I.bare, Un.laid hk (g0r _) hfD, ⟨fun _ => none, hns, ?_⟩, ?_, ?_, ?_, ?_, I.hok.laid hk (g0r _) new, ?_⟩
 ·intro i x v e1 e2 hv
  have e1 : (own ++ frees)[i]? = some x := e1
  unfold Xa at e2
  by_cases h1 : i < own.length
  ·rw [g1h (by simpa using h1), g1x, if_pos h1] at e2
   cases e2
  ·rw [g1a (by simpa using h1)] at e2
   rw [g1a (by omega)] at e1
   have hcl : caps.length = frees.length := by have := congrArg g3c hcap; simpa using this
   simp only [List.length_replicate] at e2
   ·rw [g0w] at e2
    obtain ⟨j, q1, q2⟩ := BL hcap e1
    rw [q1] at e2
    have e2 : σ.getD j none = some v := by simpa using e2
    have e2' : σ[j]? = some (some v) := by
     rw [g0k] at e2
     cases z : σ[j]? with
     | none => rw [z] at e2; cases e2
     | some w => rw [z] at e2; simp at e2; rw [e2]
    obtain ⟨hx, hsx⟩ := S.capt x (g2h e1)
    obtain ⟨m, hn, hl⟩ := I.loc
    obtain ⟨u, r, lk⟩ := hl j x v q2 e2' (.inr hx)
    refine ⟨u, r, ?_⟩
    rcases lk with ⟨k1, _⟩ | ⟨k1, c, k2, k3⟩
    ·have k1 : X.env.scope.names.lookup x = some .local := k1
     rcases hx with z | z <;> rw [z] at k1 <;> cases k1
    ·obtain ⟨c', hc'⟩ := c2 x (Yj hsx)
     have z := c1 x c' hc'
     rw [k2] at z; cases z
     obtain ⟨o, ho, hd⟩ := k3
     exact .inr ⟨kh hsx, c, hc', o, hk _ _ ho, hd⟩
 ·intro x c e
  obtain ⟨v, o, ho, hd⟩ := I.cell x c (c1 x c e)
  exact ⟨v, o, hk _ _ ho, hd⟩
 ·show (upd H s.heap.objs.size (.lst [])) C = none
  rw [zE hCD]; exact hfC
 ·intro x c e
  have z := I.freeC x c (c1 x c e)
  obtain ⟨v, o, ho, hd⟩ := I.cell x c (c1 x c e)
  show (upd H s.heap.objs.size (.lst [])) c = none
  rw [zE (g1g (Heap.lt_size ho))]; exact z
 ·intro p hp; cases hp
 ·show (Xa own.length caps σ).length = (own ++ frees).length
  have hcl : caps.length = frees.length := by have := congrArg g3c hcap; simpa using this
  simp [Xa, hcl]
def jB (ρ : Rho) : Prop := ∀ (i : Nat) (sl : Slot), ρ[i]? = some sl -> sl.own = false
theorem Rep.rebase {K : W.Frag} {H₀ Hf₀ : Hp} {σ : St} {ρ : Rho} {H Hf H' : Hp} (R : Rep K H₀ Hf₀ σ ρ H Hf) (hn : jB ρ) (hs : yo Hf H') : Rep K H' Hf σ ρ H' Hf where
 s0 := zB
 sf := hs
 nf := fun _ _ e => .inl e
 f0 := zB
 len := R.len
 fr := R.fr
 ow := fun i sl e o => by rw [hn i sl e] at o; cases o
 inj := fun i j sl sl' a e o => by rw [hn i sl e] at o; cases o
def qY (γ : FG) : Prop := ∀ d ρ ρ', γ d ρ = some ρ' -> jB ρ -> jB ρ'
theorem jB.set {ρ : Rho} (h : jB ρ) (i : Nat) (d : D) : jB (ρ.set i (.fr d)) := fun j sl e => by
 rw [g1b] at e
 split at e
 ·split at e
  ·cases e; rfl
  ·cases e
 ·exact h j sl e
theorem wO {i : Nat} : qY (zJ i) := fun d ρ ρ' e h => by cases e; exact h.set i d
def kS (δ : FGs) : Prop := ∀ ds ρ ρ', δ ds ρ = some ρ' -> jB ρ -> jB ρ'
theorem JQ : kS Yf := fun ds ρ ρ' e h => by
 cases ds with
 | nil => cases e; exact h
 | cons _ _ => cases e
theorem kL {γ : FG} {δ : FGs} (h1 : qY γ) (h2 : kS δ) : kS (yU γ δ) := fun ds ρ ρ' e h => by
 cases ds with
 | nil => cases e
 | cons d r =>
  have e : (γ d ρ).bind (fun ρ' => δ r ρ') = some ρ' := e
  cases e1 : γ d ρ with
  | none => rw [e1] at e; cases e
  | some ρ1 => rw [e1] at e; exact h2 r ρ1 ρ' e (h1 d ρ ρ1 e1 h)
theorem Hx {n : Nat} {δ : FGs} (h : kS δ) : qY (ZT n δ) := fun d ρ ρ' e hn => by
 unfold ZT at e
 split at e
 ·split at e
  ·exact h _ ρ ρ' e hn
  ·cases e
 ·cases e
theorem jB.comp {n : Nat} {caps : List Nat} {ρ : Rho} : jB (vY n caps ρ) := fun i sl e => by
 unfold vY at e
 by_cases h : i < n
 ·rw [g1h (by simpa using h), g1x, if_pos h] at e
  cases e; rfl
 ·rw [g1a (by simpa using h), g0w] at e
  cases q : caps[i - (g0g n Slot.no).length]? with
  | none => rw [q] at e; cases e
  | some j =>
   rw [q] at e
   cases e
   unfold Fh
   split <;> rfl
theorem K0 {K : W.Frag} {H₀ Hf₀ : Hp} {σ : St} {ρ : Rho} {H Hf H' : Hp} {n : Nat} {caps : List Nat} (R : Rep K H₀ Hf₀ σ ρ H Hf) (hs : yo Hf H') : Rep K H' Hf (Xa n caps σ) (vY n caps ρ) H' Hf where
 s0 := zB
 sf := hs
 nf := fun _ _ e => .inl e
 f0 := zB
 len := by simp [vY, Xa]
 fr := fun i d e => by
  unfold vY at e
  unfold Xa
  by_cases h : i < n
  ·rw [g1h (by simpa using h), g1x, if_pos h] at e
   cases e
  ·rw [g1a (by simpa using h), g0w] at e ⊢
   simp only [List.length_replicate] at e ⊢
   cases q : caps[i - n]? with
   | none => rw [q] at e; cases e
   | some j =>
    rw [q] at e
    simp only [g1o, g2s.injEq] at e ⊢
    unfold Fh at e
    split at e
    ·cases e
     rename_i e
     obtain ⟨v, q1, q2⟩ := R.fr j d e
     exact ⟨v, by rw [g0k, q1]; rfl, q2⟩
    ·cases e
 ow := fun i sl e o => by rw [jB.comp i sl e] at o; cases o
 inj := fun i j sl sl' a e o => by rw [jB.comp i sl e] at o; cases o
theorem Grows.trans {H Hf H1 Hf1 H2 Hf2 : Hp} (a : Grows H Hf H1 Hf1) (b : Grows H1 Hf1 H2 Hf2) : Grows H Hf H2 Hf2 :=
 ⟨a.h.trans b.h, a.f.trans b.f, b.fh, fun c o e => by
  rcases b.new c o e with q | q | q
  ·exact a.new c o q
  ·exact .inr (.inl (a.h.free q))
  ·exact .inr (.inr q)⟩
theorem Rep.toGrows {K : W.Frag} {σ : St} {ρ : Rho} {H Hf H' Hf' : Hp} (R : Rep K H Hf σ ρ H' Hf') : Grows H Hf H' Hf' := ⟨R.s0, R.f0, R.sf, R.nf⟩
theorem Vt {γ : FG} {ft : FT} {f : FE} {d : D} {ds ys : List D} {ρ : Rho} (h : xS γ ft f (d :: ds) ρ = some ys) :
  ∃ ρ1 b, γ d ρ = some ρ1 /\ ft ρ1 = some b /\ ((b = true /\ ∃ y r, f ρ1 = some y /\ xS γ ft f ds ρ1 = some r /\ ys = y :: r) \/ (b = false /\ xS γ ft f ds ρ1 = some ys)) := by
 unfold xS at h
 cases e1 : γ d ρ with
 | none => rw [e1] at h; cases h
 | some ρ1 =>
  rw [e1] at h
  simp only [g0a] at h
  cases e2 : ft ρ1 with
  | none => rw [e2] at h; cases h
  | some b =>
   rw [e2] at h
   simp only [g0a] at h
   refine ⟨ρ1, b, rfl, e2, ?_⟩
   cases b with
   | false => exact .inr ⟨rfl, by simpa using h⟩
   | true =>
    simp only [if_true] at h
    cases e3 : f ρ1 with
    | none => rw [e3] at h; cases h
    | some y =>
     rw [e3] at h
     simp only [g0a] at h
     cases e4 : xS γ ft f ds ρ1 with
     | none => rw [e4] at h; cases h
     | some r => rw [e4] at h; cases h; exact .inl ⟨rfl, y, r, rfl, rfl, rfl⟩
theorem Wl {tg elt iter : Expr} {ifs : List Expr} {pos : Pos} {γ : FG} {ft : FT} {f : FE} {pins : List (Addr × Obj)} {s₂ : Shared} {σ : St} {H₂ Hf₂ H₀ Hf₀ : Hp} {ρ : Rho} {ds ys : List D} {J : It} {fp : List Addr} {it : Addr} {tn : Nat -> Heap -> Prop} {E : Value -> Shared -> Prop}
  (hc : X.calm = true) (S : CompScope X.env.scope scope own frees) (hcap : caps.map (fun j => X.N[j]?) = frees.map some) (kn : qY γ)
  (body : ∀ cl C s H fp, DG (cxC X scope cl C (own ++ frees) s H fp) tg γ /\ DQ (cxC X scope cl C (own ++ frees) s H fp) ifs ft /\ DE (cxC X scope cl C (own ++ frees) s H fp) elt f)
  (c1 : ∀ x c, cl.lookup x = some c -> X.env.cells.lookup x = some c) (c2 : ∀ n, (n, NameKind.free) ∈ scope.names -> ∃ c, cl.lookup n = some c)
  (I : Inv X pins σ H₂ s₂) (T : Turn X.prog X.w X.K tg J fp it tn) (st : tn 0 s₂.heap) (hfp : ∀ b ∈ fp, q9 X pins H₂ b) (R : Rep X.K H₀ Hf₀ σ ρ H₂ Hf₂) (wk : Walks X.K Hf₂ J ds) (hz : ds.length <= sizeLine)
  (hgo : xS γ ft f ds (vY own.length caps ρ) = some ys) {RR : Value -> Addr -> Result -> Shared -> Prop}
  (hRR : ∀ D C s' H' Hf' xs, Inv X pins σ H' s' -> (∃ m, s'.heap.Ns C m) -> q9 X pins H' C -> Grows H₂ Hf₂ H' Hf' -> ya X.K Hf' ys xs -> H' D = some (.lst xs) -> Hf' D = none -> H₂ D = none -> RR (.ref D) C (.ok .next) s') :
  wpAny (model X.prog X.w) X.A (newList []) (fun acc s₃ => wpAny (model X.prog X.w) X.A (newFunctionEnv scope X.env.globals cl [] X.env.qual none .none (some X.env)) (fun cenv s₄ =>
   codeAny (model X.prog X.w) X.A (.compStart (.ListComp elt [⟨tg, iter, ifs, 0⟩] scope pos) 0 (.ref it) acc { cenv with scope := relabel scope X.env }) (RR acc cenv.locals) s₄) E s₃) E s₂ := by
 have hfo : ∀ b ∈ fp, b < s₂.heap.objs.size := fun b hb => by
  obtain ⟨o, ho, _⟩ := T.obj 0 _ st b hb
  exact Heap.lt_size ho
 refine wpAny_newObj_type (wpAny_newFunctionEnv S.nocell (by intro y hy; simp at hy) (fun h₁ hns₁ hsb₁ => ?_) S.kind)
 dsimp only at hns₁ hsb₁ ⊢
 have hC : (s₂.heap.push { cls := .type "list", dict := none, data := .seq ([] : List Value).toArray }).objs.size = s₂.heap.objs.size + 1 := by rw [Heap.size_push]
 generalize hCe : (s₂.heap.push { cls := .type "list", dict := none, data := .seq ([] : List Value).toArray }).objs.size = C at hC hns₁ hsb₁ ⊢
 obtain ⟨b1, b2, b3⟩ := body cl C s₂ H₂ fp
 have hfD : H₂ s₂.heap.objs.size = none := I.hok.fresh (g0r _)
 have IC : Inv (cxC X scope cl C (own ++ frees) s₂ H₂ fp) [] (Xa own.length caps σ) (upd H₂ s₂.heap.objs.size (.lst [])) { s₂ with heap := h₁, toks := s₂.toks + ([] : List (Str × Value)).length } :=
  Ci I S hcap hfp hfo c1 c2 hC hns₁ hsb₁
 have DfD : Hf₂ s₂.heap.objs.size = none := R.sf.free hfD
 have R1 : Rep X.K (upd H₂ s₂.heap.objs.size (.lst [])) Hf₂ (Xa own.length caps σ) (vY own.length caps ρ) (upd H₂ s₂.heap.objs.size (.lst [])) Hf₂ := K0 R (R.sf.trans (zM hfD))
 have keep1 : ∀ b o, s₂.heap.get? b = some o -> h₁.get? b = some o := fun b u e => (hsb₁.2 b (by rw [hC]; exact g1g (Nat.lt_succ_of_lt (Heap.lt_size e)))).trans (Heap.get?_push_of_some _ (Heap.get?_push_of_some _ e))
 have st1 : tn 0 h₁ := T.keep 0 _ _ st fun b _ o e => keep1 b o e
 have stat : ∀ {H' : Hp}, (∀ b ∈ fp, H' b = none) -> ∀ b ∈ fp, q9 (cxC X scope cl C (own ++ frees) s₂ H₂ fp) [] H' b := fun {H'} hn b hb => by
  refine ⟨hn b hb, g1g (g1c (hfo b hb) (by rw [hC]; exact Nat.le_succ _)), fun z => ?_, .inl hb, fun x c e => (hfp b hb).2.2.2.2.1 x c (c1 x c e), fun p hp => by cases hp⟩
  rcases g0q.mp (I.stkSub b z) with q | q
  ·exact (hfp b hb).2.1 q
  ·exact (hfp b hb).2.2.1 q
 have fp1 : ∀ b ∈ fp, (upd H₂ s₂.heap.objs.size (.lst [])) b = none := fun b hb => by
  rw [zE (g1g (hfo b hb))]; exact (hfp b hb).1
 have loop : ∀ s₃ : Shared, s₃ = { s₂ with heap := h₁, toks := s₂.toks + ([] : List (Str × Value)).length } →
   codeAny (model X.prog X.w) X.A (.compLoop (.ListComp elt [⟨tg, iter, ifs, 0⟩] scope pos) 0 (.ref it) (.ref s₂.heap.objs.size) (compEnvC scope cl C X.env)) (RR (.ref s₂.heap.objs.size) C) s₃ := by
  rintro s₃ rfl
  refine Wm (fun n s' => ∃ i ρ' σ' H' Hf' zs xs r, n = ds.length - i /\ i <= ds.length /\ Inv (cxC X scope cl C (own ++ frees) s₂ H₂ fp) [] σ' H' s' /\ tn i s'.heap /\ (∀ b ∈ fp, H' b = none) /\ Rep X.K H' Hf' σ' ρ' H' Hf' /\ jB ρ' ∧
   xS γ ft f (ds.drop i) ρ' = some r /\ zs ++ r = ys /\ ya X.K Hf' zs xs /\ zs.length <= i /\ H' s₂.heap.objs.size = some (.lst xs) /\ Hf' s₂.heap.objs.size = none /\ Grows H₂ Hf₂ H' Hf') ?_ ds.length
   ⟨0, _, _, _, _, [], [], ys, by simp, g2e _, IC, st1, fp1, R1, jB.comp, by simpa using hgo, rfl, .nil, by simp, zz, DfD, ⟨zM hfD, zB, R1.sf, fun b o e => .inl e⟩⟩
  rintro n s' ⟨i, ρ', σ', H', Hf', zs, xs, r, rfl, hi, I', st', fr', R', no', go', hys, hxs, hzl, hD', hfD', gr'⟩
  obtain ⟨w1, w2⟩ := wk H' Hf' gr'.f R'.sf i
  by_cases hil : i < ds.length
  ·have hd : ds[i]? = some ds[i] := g0z hil
   obtain ⟨go, yld⟩ := w1 _ hd
   rw [g1f hil] at go'
   obtain ⟨ρ1, b, eg, et, hb⟩ := Vt go'
   refine wpAny_mono (T.item (cxC X scope cl C (own ++ frees) s₂ H₂ fp) rfl rfl rfl hc i [] s' σ' H' (fun _ _ => False) I' (stat fr') st' go) (fun rv s4 ⟨u, hr, h4⟩ => ?_) fun _ _ z => z
   subst hr
   refine wpAny_mono h4 (fun _ s5 ⟨x, H5, I5, r5, y5, st5, fr5⟩ => ?_) fun _ _ z => z
   obtain ⟨Hf5, gr5, hx5⟩ := yld x H5 y5
   have R5 : Rep X.K H' Hf' σ' ρ' H5 Hf5 := R'.grows gr5
   have I5' := I5.pinned (stat fr5) (T.obj _ _ st5)
   refine wpAny_mono (b1 _ s5 σ' H5 x u _ I5' r5 ⟨H', Hf', ρ', Hf5, ds[i], ρ1, R5, hx5, eg, fun σ6 H6 Hf6 R6 t6 => (⟨Hf6, R6, t6⟩ : ∃ Hf6, Rep X.K H' Hf' σ6 ρ1 H6 Hf6 /\ yo Hf5 Hf6)⟩) (fun _ s6 h6 => ?_) fun _ _ z => z
   obtain ⟨σ6, H6, I6, Hf6, R6, t6⟩ := h6
   refine wpAny_mono (b2 _ s6 σ6 H6 (fun b' H7 => b' = b /\ ∃ Hf7, Rep X.K H' Hf' σ6 ρ1 H7 Hf7) I6 ⟨H', Hf', ρ1, Hf6, b, R6, et, fun H7 Hf7 R7 s7 t7 => ⟨rfl, Hf7, R7⟩⟩) (fun ok s7 h7 => ?_) fun _ _ z => z
   obtain ⟨H7, I7, rfl, Hf7, R7⟩ := h7
   have no1 := kn _ _ _ eg no'
   have hm : ds.length - (i + 1) < ds.length - i := by omega
   rcases hb with ⟨rfl, y, r', ef, er, rfl⟩ | ⟨rfl, er⟩
   ·rw [if_pos rfl]
    refine wpAny_mono (b3 _ s7 σ6 H7 (fun v H8 => ∃ Hf8, Rep X.K H' Hf' σ6 ρ1 H8 Hf8 /\ Has X.K Hf8 y v) I7 ⟨H', Hf', ρ1, Hf7, y, R7, ef, fun v H8 Hf8 R8 s8 t8 h8 => ⟨Hf8, R8, h8⟩⟩) (fun u' s8 h8 => ?_) fun _ _ z => z
    obtain ⟨v, H8, I8, r8, Hf8, R8, h8⟩ := h8
    have hD8 : H8 s₂.heap.objs.size = some (.lst xs) := R8.s0 _ _ hD'
    have hfD8 : Hf8 s₂.heap.objs.size = none := by
     cases z : Hf8 s₂.heap.objs.size with
     | none => rfl
     | some o =>
      rcases R8.nf _ _ z with q | q | ⟨ks, rfl⟩
      ·rw [hfD'] at q; cases q
      ·rw [hD'] at q; cases q
      ·have := hD8.symm.trans (R8.sf _ _ z); cases this
    have hsd : yo Hf8 (upd H8 s₂.heap.objs.size (.lst (xs ++ [v]))) := fun b o e => by rw [zE (zS e hfD8)]; exact R8.sf b o e
    refine wpAny_mono (Zq (X := cxC X scope cl C (own ++ frees) s₂ H₂ fp) _ s8 σ6 H8 (.ref s₂.heap.objs.size) [v] _ [u'] (fun _ H9 => H9 = upd H8 s₂.heap.objs.size (.lst (xs ++ [v]))) I8 rfl (.cons r8 .nil) ⟨_, xs, v, rfl, rfl, hD8, by have := hxs.length; omega, rfl⟩) (fun u9 s9 h9 => ?_) fun _ _ z => z
    obtain ⟨v9, H9, I9, _, rfl⟩ := h9
    refine ⟨_, hm, i + 1, ρ1, σ6, _, Hf8, zs ++ [y], xs ++ [v], r', rfl, hil, I9.unpinned, T.keep _ _ _ st5 fun b hb o e => (I9.pin (b, o) (g0v _ (g0v _ (xQ hb e)))).1, fun b hb => ?_, R8.rebase no1 hsd, no1, er, by rw [g0x]; exact hys, (hxs.mono R8.f0).append (.cons h8 .nil), by simp; omega, zz, hfD8, ?_⟩
    ·obtain ⟨o, e, d⟩ := T.obj _ _ st5 b hb
     exact (I9.pin (b, o) (g0v _ (g0v _ (xQ hb e)))).2.1
    ·have g8 := gr'.trans R8.toGrows
     exact ⟨fun b o e => by rw [zE (zS e hfD)]; exact g8.h b o e, g8.f, hsd, g8.new⟩
   ·rw [if_neg g1q]
    refine ⟨_, hm, i + 1, ρ1, σ6, _, Hf7, zs, xs, r, rfl, hil, I7.unpinned, T.keep _ _ _ st5 fun b hb o e => (I7.pin (b, o) (g0v _ (g0v _ (xQ hb e)))).1, fun b hb => ?_, R7.rebase no1 R7.sf, no1, er, hys, hxs.mono R7.f0, by omega, R7.s0 _ _ hD', ?_, gr'.trans R7.toGrows⟩
    ·obtain ⟨o, e, d⟩ := T.obj _ _ st5 b hb
     exact (I7.pin (b, o) (g0v _ (g0v _ (xQ hb e)))).2.1
    ·cases z : Hf7 s₂.heap.objs.size with
     | none => rfl
     | some o =>
      rcases R7.nf _ _ z with q | q | ⟨ks, rfl⟩
      ·rw [hfD'] at q; cases q
      ·rw [hD'] at q; cases q
      ·have := (R7.s0 _ _ hD').symm.trans (R7.sf _ _ z); cases this
  ·have : ds.drop i = [] := List.drop_eq_nil_of_le (by omega)
   rw [this] at go'
   cases go'
   rw [g0t] at hys
   subst hys
   refine wpAny_mono (T.done (cxC X scope cl C (own ++ frees) s₂ H₂ fp) rfl rfl rfl hc i [] s' σ' H' (fun _ _ => False) I' (stat fr') st' (w2 (by omega))) (fun rv s4 ⟨hr, I4⟩ => ?_) fun _ _ z => z
   subst hr
   obtain ⟨m, hn, _⟩ := I4.loc
   have hch : ∀ b ∈ fp, (b ∈ X.ex \/ X.s₀.heap.objs.size <= b) /\ b ≠ X.env.locals /\ (∀ x c, X.env.cells.lookup x = some c -> c ≠ b) /\ ∀ p ∈ X.pn ++ pins, p.1 ≠ b := fun b hb => ⟨(hfp b hb).2.2.2.1, (hfp b hb).2.1, (hfp b hb).2.2.2.2.1, (hfp b hb).2.2.2.2.2⟩
   exact hRR _ C s4 H' Hf' xs (I.call' (s' := s4) I4.os I4.base I4.hok I4.bare hch) ⟨m, hn⟩ (I.fpOk (by rw [hC]; exact Nat.le_succ _) I4.free) gr' hxs hD' hfD' hfD
 exact codeAny_compStart_list (loop _ rfl) (T.self _ 0 _ _ _ st1 (loop _ rfl))
theorem Yo {n : Nat} {fi : FA} {γ : FG} {ft : FT} {f : FE} {ρ : Rho} {ys : List D} (h : qi n caps fi γ ft f ρ = some ys) : ∃ ds, fi ρ = some ds /\ ds.length <= sizeLine /\ xS γ ft f ds (vY n caps ρ) = some ys := by
 obtain ⟨ds, e1, e2⟩ := yZ h
 split at e2
 ·exact ⟨ds, e1, by assumption, e2⟩
 ·cases e2
theorem Kl {pins : List (Addr × Obj)} {σ : St} {H : Hp} {s : Shared} (I : Inv X pins σ H s) (S : CompScope X.env.scope scope own frees) : ∃ cl, closureFor scope X.env = pure cl /\ (∀ x c, cl.lookup x = some c -> X.env.cells.lookup x = some c) /\ ∀ n, (n, NameKind.free) ∈ scope.names -> ∃ c, cl.lookup n = some c := by
 obtain ⟨cl, e1, e2, _, e4⟩ := j1 (env := X.env) scope.names [] (fun n hn => I.ok.has n (S.free (n, .free) hn rfl)) (fun x c e => by simp at e)
 exact ⟨cl, Xb e1, e2, e4⟩
theorem qW {tg elt iter : Expr} {ifs : List Expr} {pos : Pos} {fi : FA} {γ : FG} {ft : FT} {f : FE} (hc : X.calm = true) (S : CompScope X.env.scope scope own frees) (hcap : caps.map (fun j => X.N[j]?) = frees.map some) (kn : qY γ) (hi : DI X tg iter fi)
  (body : ∀ cl C s H fp, DG (cxC X scope cl C (own ++ frees) s H fp) tg γ /\ DQ (cxC X scope cl C (own ++ frees) s H fp) ifs ft /\ DE (cxC X scope cl C (own ++ frees) s H fp) elt f)
  (hs : ∀ x, foldedSetIterable iter X.env x = pure x := by intro _; rfl) : DN X (.ListComp elt [⟨tg, iter, ifs, 0⟩] scope pos) (qi own.length caps fi γ ft f) := by
 intro pins s σ H Q I h
 obtain ⟨H₀, Hf₀, ρ, Hf, ys, R, q, k⟩ := h
 obtain ⟨ds, e1, hz, e2⟩ := Yo q
 obtain ⟨cl, hcl, c1, c2⟩ := Kl I S
 rw [eval_ListComp]
 refine wpAny_comprehension_free (use := none) rfl hs hcl S.kind S.loc (thn (hi pins s σ H (fun J H' => ∃ Hf', Rep X.K H₀ Hf₀ σ ρ H' Hf' /\ yo H H' /\ yo Hf Hf' /\ Walks X.K Hf' J ds) I ⟨H₀, Hf₀, ρ, Hf, ds, R, e1, fun J H' Hf' R' s' t' wk => ⟨Hf', R', s', t', wk⟩⟩) fun v s1 h1 => thn h1 fun itv s2 h2 => ?_)
 obtain ⟨it, fp, tn, J, H2, rfl, I2, T, st2, f2, Hf2, R2, s2', t2', wk⟩ := h2
 refine Wl (RR := compPost (model X.prog X.w) X.A X.xe none (EP X pins σ Q)) hc S hcap kn body c1 c2 I2 T st2 f2 R2 wk hz e2 ?_
 intro D C s' H' Hf' xs I' hns hfC gr hxs hD hfD hD0
 obtain ⟨m, hn⟩ := hns
 refine ⟨m, hn, fun h' hsb => ⟨.ref D, H', ?_, rfl, ?_⟩⟩
 ·obtain ⟨f0, f1, f2, f3, f4, f5⟩ := hfC
  exact I'.turned (t' := s'.toks) (fun b o hb e => (hsb.2 b hb).trans e) f0 f1 f3 f4 f5
 ·exact k D xs H' Hf' (R2.grows gr) (s2'.trans gr.h) (t2'.trans gr.f) hxs hD hfD (s2'.free hD0)
theorem Uu {tg elt iter : Expr} {ifs : List Expr} {y : Str} {py pos spos : Pos} {fi : FA} {γ : FG} {ft : FT} {f : FE} (hc : X.calm = true) (S : CompScope X.env.scope scope own frees) (hcap : caps.map (fun j => X.N[j]?) = frees.map some) (kn : qY γ) (hi : DI X tg iter fi)
  (body : ∀ cl C s H fp, DG (cxC X scope cl C (own ++ frees) s H fp) tg γ /\ DQ (cxC X scope cl C (own ++ frees) s H fp) ifs ft /\ DE (cxC X scope cl C (own ++ frees) s H fp) elt f)
  (hsw : swapsWith (.ListComp elt [⟨tg, iter, ifs, 0⟩] scope pos) (some (.Name y py)) spos.line X.env = pure true) (i : Nat) (hN : X.N.Nodup) (hiN : X.N[i]? = some y) (hy : X.env.scope.names.lookup y = some .local)
  (hs : ∀ x, foldedSetIterable iter X.env x = pure x) : PS X (.Assign [.Name y py] (.ListComp elt [⟨tg, iter, ifs, 0⟩] scope pos) spos) (fun D' σ H => ∃ H₀ Hf₀ ρ Hf ys, Rep X.K H₀ Hf₀ σ ρ H Hf /\ qi own.length caps fi γ ft f ρ = some ys ∧
   ∀ a xs H' Hf', Rep X.K H₀ Hf₀ σ ρ H' Hf' -> yo H H' -> yo Hf Hf' -> ya X.K Hf' ys xs -> H' a = some (.lst xs) -> Hf' a = none -> H a = none -> D'.nx (σ.set i (some (.ref a))) H') := by
 intro pins s σ H D' I h
 obtain ⟨H₀, Hf₀, ρ, Hf, ys, R, q, k⟩ := h
 obtain ⟨ds, e1, hz, e2⟩ := Yo q
 obtain ⟨cl, hcl, c1, c2⟩ := Kl I S
 rw [exec_Assign_Name_used _ _ _ _ hsw]
 refine wpAny_bind (wpAny_standAt (wpAny_bind ?_))
 show wpAny _ X.A (do let _ ← comprehension (.ListComp elt [⟨tg, iter, ifs, 0⟩] scope pos) scope X.env _ (newList []) false (eval iter X.env) (some (assign (.Name y py) X.env))) _ _ s
 refine wpAny_bind (wpAny_mono (wpAny_comprehension_free (use := some (assign (.Name y py) X.env)) (Q := fun _ s' => SP X pins D' .next s') rfl hs hcl S.kind S.loc
  (thn (hi pins s σ H (fun J H' => ∃ Hf', Rep X.K H₀ Hf₀ σ ρ H' Hf' /\ yo H H' /\ yo Hf Hf' /\ Walks X.K Hf' J ds) I ⟨H₀, Hf₀, ρ, Hf, ds, R, e1, fun J H' Hf' R' s' t' wk => ⟨Hf', R', s', t', wk⟩⟩) fun v s1 h1 => thn h1 fun itv s2 h2 => ?_)) (fun _ s' hq => wpAny_pure (wpAny_pure hq)) fun _ _ e => e)
 obtain ⟨it, fp, tn, J, H2, rfl, I2, T, st2, f2, Hf2, R2, s2', t2', wk⟩ := h2
 refine Wl (RR := compPost (model X.prog X.w) X.A X.xe (some (assign (.Name y py) X.env)) (fun _ s' => SP X pins D' .next s')) hc S hcap kn body c1 c2 I2 T st2 f2 R2 wk hz e2 ?_
 intro D C s' H' Hf' xs I' hns hfC gr hxs hD hfD hD0
 obtain ⟨m, hn⟩ := hns
 show wpAny _ X.A (assign (.Name y py) X.env (.ref D)) _ _ _
 refine wpAny_assign_Name (Xy I' hN hiN (.inl hy) (show xU (.ref D) (.ref D) from rfl) (fun s'' I'' hsb => ?_) (.inr hy))
 obtain ⟨a, hsb, ha⟩ := hsb
 obtain ⟨f0, f1, f2', f3, f4, f5⟩ := hfC
 have haC : a ≠ C := by
  rcases ha with z | z
  ·rw [z]; exact Ne.symm f1
  ·exact f4 _ _ z
 refine ⟨m, hn.sameBut hsb (Ne.symm haC), fun h' hsb' => ?_⟩
 exact ⟨_, H', I''.turned (t' := s''.toks) (fun b o hb e => (hsb'.2 b hb).trans e) f0 f1 f3 f4 f5, k D xs H' Hf' (R2.grows gr) (s2'.trans gr.h) (t2'.trans gr.f) hxs hD hfD (s2'.free hD0)⟩
end
structure Draw (P : Program) (w : World) (K : W.Frag) (J : It) (fp : List Addr) (it : Addr) (tn : Nat -> Heap -> Prop) : Prop where
 mem : it ∈ fp
 obj : ∀ i h, tn i h -> ∀ b ∈ fp, ∃ o, h.get? b = some o /\ ∀ v, o.data ≠ .cell v
 keep : ∀ i h h', tn i h -> (∀ b ∈ fp, ∀ o, h.get? b = some o -> h'.get? b = some o) -> tn i h'
 item : ∀ (A : Around) (X : Cx), X.prog = P -> X.w = w -> X.K = K -> ∀ (i : Nat) (pins : List (Addr × Obj)) (s : Shared) (σ : St) (H : Hp) (E : Value -> Shared -> Prop), Inv X pins σ H s -> (∀ b ∈ fp, q9 X pins H b) -> tn i s.heap -> J.go i H →
  wpAny (model P w) A (Builtin.SmallTypes.nextOf (.ref it)) (fun u s2 => ∃ x H', Inv X pins σ H' s2 /\ xU x u /\ J.yld i H x H' /\ tn (i + 1) s2.heap /\ ∀ b ∈ fp, H' b = none) E s
 fin : ∀ (A : Around) (X : Cx), X.prog = P -> X.w = w -> X.K = K -> A.handled = none -> ∀ (i : Nat) (pins : List (Addr × Obj)) (s : Shared) (σ : St) (H : Hp) (Q : Value -> Shared -> Prop), Inv X pins σ H s -> (∀ b ∈ fp, q9 X pins H b) -> tn i s.heap -> J.stop i H →
  wpAny (model P w) A (Builtin.SmallTypes.nextOf (.ref it)) Q (fun e s2 => Inv X pins σ H s2 /\ ∃ a o, e = .ref a /\ s2.heap.get? a = some o /\ o.cls = .type "StopIteration") s
section
variable {prog : Program} {w : World} {A : Around} {E : Value -> Shared -> Prop} {s : Shared}
theorem jP {it l : Addr} {i : Nat} {items : Array Value} {x : Value} {Q : Value -> Shared -> Prop} (hit : s.heap.IsTupleIter it l i) (hl : s.heap.IsTuple l items) (hx : items[i]? = some x)
  (hQ : ∀ h', h'.IsTupleIter it l (i + 1) -> Heap.SameBut it s.heap h' -> Q x { s with heap := h' }) : wpAny (model prog w) A (Builtin.SmallTypes.nextOf (.ref it)) Q E s := by
 obtain ⟨o, ho, hc, hd⟩ := id hit
 obtain ⟨ol, hol, _, nl, hdl⟩ := hl
 unfold Builtin.SmallTypes.nextOf
 refine wpAny_bind (wpAny_callSpecial?_slot (name := Str.ofString "__next__") hit.typeIs F.slot_tuple_iterator_next
  (wpAny_call_entry F.slot_tuple_iterator_next hit.typeIs F.entry_tuple_iterator_next ?_ (F.args_tuple_iterator_next_1 _)))
 show wpAny _ _ (field (.ref it) 0 >>= _) _ _ s
 refine wpAny_bind (wpAny_field ho hd (x := .ref l) rfl ?_)
 show wpAny _ _ (if (Value.ref l == Value.none) = true then _ else _) _ _ s
 rw [if_neg (show ¬ ((Value.ref l == Value.none) = true) from g1q)]
 show wpAny _ _ (field (.ref it) 1 >>= _) _ _ s
 refine wpAny_bind (wpAny_field ho hd (x := .int i 0) rfl ?_)
 show wpAny _ _ (seqItems? (.ref l) >>= _) _ _ s
 refine wpAny_bind (wpAny_seqItems hol hdl ?_)
 simp only [Int.toNat_natCast, hx]
 refine wpAny_bind (wpAny_setField ho hd (by simp) (wpAny_pure ⟨x, rfl, wpAny_pure (hQ _ ?_ (Heap.SameBut.update ..))⟩))
 exact ⟨_, Heap.get?_update_self _ ho (Obj.isFreed_of_fields (Obj.data_mapFields hd _)), (Obj.cls_mapFields ..).trans hc, by rw [Obj.data_mapFields hd]; simp [rawInt]⟩
theorem kE {it l : Addr} {i : Nat} {items : Array Value} {Q : Value -> Shared -> Prop} (hh : A.handled = none) (hit : s.heap.IsTupleIter it l i) (hl : s.heap.IsTuple l items) (hx : items[i]? = none)
  (hE : ∀ h' e, Heap.ExtBut it s.heap h' -> (∃ o, h'.get? e = some o /\ o.cls = .type "StopIteration") -> E (.ref e) { s with heap := h' }) : wpAny (model prog w) A (Builtin.SmallTypes.nextOf (.ref it)) Q E s := by
 obtain ⟨o, ho, hc, hd⟩ := id hit
 obtain ⟨ol, hol, _, nl, hdl⟩ := hl
 unfold Builtin.SmallTypes.nextOf
 refine wpAny_bind (wpAny_callSpecial?_slot (name := Str.ofString "__next__") hit.typeIs F.slot_tuple_iterator_next
  (wpAny_call_entry F.slot_tuple_iterator_next hit.typeIs F.entry_tuple_iterator_next ?_ (F.args_tuple_iterator_next_1 _)))
 show wpAny _ _ (field (.ref it) 0 >>= _) _ _ s
 refine wpAny_bind (wpAny_field ho hd (x := .ref l) rfl ?_)
 show wpAny _ _ (if (Value.ref l == Value.none) = true then _ else _) _ _ s
 rw [if_neg (show ¬ ((Value.ref l == Value.none) = true) from g1q)]
 show wpAny _ _ (field (.ref it) 1 >>= _) _ _ s
 refine wpAny_bind (wpAny_field ho hd (x := .int i 0) rfl ?_)
 show wpAny _ _ (seqItems? (.ref l) >>= _) _ _ s
 refine wpAny_bind (wpAny_seqItems hol hdl ?_)
 simp only [Int.toNat_natCast, hx]
 refine wpAny_bind (wpAny_rule (wpAny_bind (wpAny_setField ho hd (by simp) ?_)))
 show wpAny _ _ (newExc (.type "StopIteration") [] >>= _) _ _ _
 refine wpAny_bind ?_
 simp only [newExc, newTuple]
 refine wpAny_bind (wpAny_newObj_type ?_ (by size_fits))
 refine wpAny_bind (m := firstArgMember _ _) (wpAny_of_eq (a := Value.none) (by first | rfl | (simp only [firstArgMember]; rfl)) ?_)
 refine wpAny_newObj_type ?_ (by size_fits)
 simp only [raiseNew]
 refine wpAny_bind (wpAny_handled ?_)
 first | rw [show A.in1.handled = none from hh] | rw [hh]
 refine wpAny_bind (wpAny_pure (wpAny_throw ?_))
 exact hE _ _ (((Heap.SameBut.update ..).extBut.push _).push _) ⟨_, Heap.get?_push_size _ rfl, rfl⟩
end
theorem Kf {P : Program} {w : World} {K : W.Frag} (a it : Addr) : Draw P w K (Itl K a) [it] it (fun i h => h.IsListIter it a i) where
 mem := by simp
 obj := fun i h st b hb => by
  have e : b = it := by simpa using hb
  subst e
  obtain ⟨o, e, c, d⟩ := st
  exact ⟨o, e, fun v z => by rw [d] at z; cases z⟩
 keep := fun i h h' st k => st.at fun o e => k it (by simp) o e
 item := by
  intro A X hP hw hK i pins s σ H E I hf st hg
  subst hP hw hK
  obtain ⟨xs, x, hq, hx⟩ := hg
  obtain ⟨its, rv, p, hz⟩ := I.list hq
  obtain ⟨u, hu, ru⟩ := rv.get hx
  obtain ⟨f0, f1, f2, f3, f4, f5⟩ := hf it (by simp)
  refine wpAny_nextOf_list_item st p.isList (x := u) (by simpa using hu) fun h' st' sb => ?_
  have I1 : Inv X pins σ H { s with heap := h' } := I.turned (t' := s.toks) (fun b o hb e => (sb.2 b hb).trans e) f0 f1 f3 f4 f5
  exact ⟨x, H, I1, ru, ⟨rfl, fun ys hy => by rw [I.list_inj hy hq]; exact hx⟩, st', fun b hb => (hf b hb).1⟩
 fin := by
  intro A X hP hw hK hh i pins s σ H Q I hf st hg
  subst hP hw hK
  obtain ⟨xs, hq, hx⟩ := hg
  obtain ⟨its, rv, p, hz⟩ := I.list hq
  obtain ⟨f0, f1, f2, f3, f4, f5⟩ := hf it (by simp)
  have hl := rv.length
  refine wpAny_nextOf_list_end hh st p.isList (by simp; omega) fun h' e eb ⟨o, ho, hc⟩ => ⟨I.turned (t' := s.toks) (fun b o hb e => eb b o hb e) f0 f1 f3 f4 f5, e, o, rfl, ho, hc⟩
theorem Qf {P : Program} {w : World} {K : W.Frag} (a it : Addr) : Draw P w K (Itt K a) [it] it (fun i h => h.IsTupleIter it a i) where
 mem := by simp
 obj := fun i h st b hb => by
  have e : b = it := by simpa using hb
  subst e
  obtain ⟨o, e, c, d⟩ := st
  exact ⟨o, e, fun v z => by rw [d] at z; cases z⟩
 keep := fun i h h' st k => st.at fun o e => k it (by simp) o e
 item := by
  intro A X hP hw hK i pins s σ H E I hf st hg
  subst hP hw hK
  obtain ⟨xs, x, hq, hx⟩ := hg
  obtain ⟨its, rv, p, hz⟩ := I.tuple hq
  obtain ⟨u, hu, ru⟩ := rv.get hx
  obtain ⟨f0, f1, f2, f3, f4, f5⟩ := hf it (by simp)
  refine jP st (show s.heap.IsTuple a its.toArray from p) (x := u) (by simpa using hu) fun h' st' sb => ?_
  have I1 : Inv X pins σ H { s with heap := h' } := I.turned (t' := s.toks) (fun b o hb e => (sb.2 b hb).trans e) f0 f1 f3 f4 f5
  exact ⟨x, H, I1, ru, ⟨rfl, fun ys hy => by rw [I.tuple_inj hy hq]; exact hx⟩, st', fun b hb => (hf b hb).1⟩
 fin := by
  intro A X hP hw hK hh i pins s σ H Q I hf st hg
  subst hP hw hK
  obtain ⟨xs, hq, hx⟩ := hg
  obtain ⟨its, rv, p, hz⟩ := I.tuple hq
  obtain ⟨f0, f1, f2, f3, f4, f5⟩ := hf it (by simp)
  have hl := rv.length
  exact kE hh st (show s.heap.IsTuple a its.toArray from p) (by simp; omega) fun h' e eb ⟨o, ho, hc⟩ => ⟨I.turned (t' := s.toks) (fun b o hb e => eb b o hb e) f0 f1 f3 f4 f5, e, o, rfl, ho, hc⟩
def ItE (J : It) : It := ⟨J.go, fun i H x H' => ∃ y H1 p, J.yld i H y H1 /\ H1 p = none /\ x = .ref p /\ H' = upd H1 p (.tup [.int i, y]), J.stop⟩
theorem q9.more {X : Cx} {pins : List (Addr × Obj)} {H : Hp} {b c : Addr} {h : Heap} (f : q9 X pins H b) (hne : b ≠ c) : q9 X (pins ++ km [c] h) H b := by
 obtain ⟨f0, f1, f2, f3, f4, f5⟩ := f
 refine ⟨f0, f1, f2, f3, f4, fun p hp z => ?_⟩
 rcases g1m.mp hp with q | q
 ·exact f5 p (g2x _ q) z
 ·rcases g1m.mp q with q | q
  ·exact f5 p (g0v _ q) z
  ·have := (Zo q).1
   have e : p.1 = c := by simpa using this
   exact hne (z ▸ e)
theorem QE {P : Program} {w : World} {K : W.Frag} {elts : List Expr} {kx : Nat} {tp : Pos} {J : It} {fp : List Addr} {it e : Addr} {tn : Nat -> Heap -> Prop} (T : Draw P w K J fp it tn) (hne : ∀ b ∈ fp, b ≠ e) :
    Turn P w K (.Tuple elts kx tp) (ItE J) (e :: fp) e (fun i h => tn i h /\ ∃ old, IsEnum h e it i old) where
  mem := g0s
  obj := fun i h st b hb => by
    rcases g0q.mp hb with rfl | hb
    · obtain ⟨_, old, he⟩ := st
      exact ⟨_, he, fun v z => by cases z⟩
    · exact T.obj i h st.1 b hb
  keep := fun i h h' st k => ⟨T.keep i h h' st.1 fun b hb o e => k b (g0m _ hb) o e, by obtain ⟨_, old, he⟩ := st; exact ⟨old, k e g0s _ he⟩⟩
  item := by
    intro X hP hw hK hc i pins s σ H E I hf st hg
    subst hP hw hK
    obtain ⟨st, old, he⟩ := st
    have hT : s.TypeIs (.ref e) "enumerate" := ⟨_, he, rfl⟩
    have fe := hf e g0s
    obtain ⟨f0, f1, f2, f3, f4, f5⟩ := id fe
    unfold pyNext
    refine wpAny_bind (wpAny_attempt (wpAny_callSpecial?_slot (name := Str.ofString "__next__") hT F.slot_enumerate_next
      (wpAny_call_entry F.slot_enumerate_next hT F.entry_enumerate_next ?_ (F.args_enumerate_next_1 _))))
    show wpAny _ _ (field (.ref e) 2 >>= _) _ _ _
    refine wpAny_bind (wpAny_field he rfl (x := .ref it) rfl ?_)
    have I0 := I.pinned (fp := [e]) (fun b hb => by have z : b = e := by simpa using hb
                                                    subst z; exact fe) (fun b hb => by have z : b = e := by simpa using hb
                                                                                       subst z; exact ⟨_, he, fun v z => by cases z⟩)
    refine wpAny_bind (wpAny_mono (T.item _ X rfl rfl rfl i _ s σ H _ I0 (fun b hb => q9.more (hf b (g0m _ hb)) (hne b hb)) st hg) (fun u s1 h1 => ?_) fun _ _ z => z)
    obtain ⟨x, H1, I1, rx, yl, st1, fr1⟩ := h1
    obtain ⟨he₁, f0', _⟩ := I1.pin _ (g0v _ (g0v _ (xQ (fp := [e]) (by simp) he)))
    have he₁ : IsEnum s1.heap e it i old := he₁
    have f0' : H1 e = none := f0'
    have I1 := I1.unpinned
    obtain ⟨hp, g, d, tk, os⟩ := s1
    show wpAny _ _ (field (.ref e) 3 >>= _) _ _ _
    refine wpAny_bind (wpAny_field he₁ rfl (x := rawInt i) rfl ?_)
    show wpAny _ _ (field (.ref e) 4 >>= _) _ _ _
    refine wpAny_bind (wpAny_field he₁ rfl (x := .none) rfl ?_)
    show wpAny _ _ (mkInt i >>= _) _ _ _
    refine wpAny_bind (wpAny_mkInt ?_)
    show wpAny _ _ (setField (.ref e) 3 (rawInt ((i : Int) + 1)) >>= _) _ _ _
    refine wpAny_bind (wpAny_setField_rec he₁ (by simp) fun h₂ he₂ hs₂ => ?_)
    replace hs₂ : Heap.SameBut e hp h₂ := hs₂
    replace he₂ : IsEnum h₂ e it ((i : Int) + 1) old := he₂
    show wpAny _ _ (setField (.ref e) 4 .none >>= _) _ _ ⟨h₂, g, d, tk + 1, os⟩
    refine wpAny_bind (wpAny_setField_rec he₂ (by simp) fun h₃ he₃ hs₃ => ?_)
    replace hs₃ : Heap.SameBut e h₂ h₃ := hs₃
    replace he₃ : IsEnum h₃ e it ((i : Int) + 1) old := he₃
    have I3 : Inv X pins σ H1 ⟨h₃, g, d, tk + 1, os⟩ := I1.turned (t' := tk + 1) (fun b o hb q => (hs₃.2 b hb).trans ((hs₂.2 b hb).trans q)) f0' f1 f3 f4 f5
    show wpAny _ _ (newTuple [.int i tk, u] >>= _) _ _ ⟨h₃, g, d, tk + 1, os⟩
    refine wpAny_bind (wpAny_newTuple ?_)
    have he₄ : IsEnum (h₃.push { cls := .type "tuple", data := .seq #[.int i tk, u] }) e it ((i : Int) + 1) old := Heap.get?_push_of_some _ he₃
    have hf4 : H1 h₃.objs.size = none := I3.hok.fresh (g0r _)
    have I4 : Inv X pins σ (upd H1 h₃.objs.size (.tup [.int i, x])) ⟨h₃.push { cls := .type "tuple", data := .seq #[.int i tk, u] }, g, d, tk + 1, os⟩ :=
      I3.laid (t' := tk + 1) (fun b u e => Heap.get?_push_of_some _ e) (g0r _) ⟨by show 2 <= sizeLine; decide, [.int i tk, u], .cons ⟨tk, rfl⟩ (.cons rx .nil), ⟨_, Heap.get?_push_size _ rfl, rfl, _, rfl⟩⟩
    have hel : e < h₃.objs.size := Heap.lt_size he₃
    have fe4 : (upd H1 h₃.objs.size (.tup [.int i, x])) e = none := by rw [zE (g1g hel)]; exact f0'
    generalize hh₄ : h₃.push { cls := .type "tuple", data := .seq #[.int i tk, u] } = h₄ at he₄ I4
    have st4 : tn (i + 1) h₄ := T.keep _ _ _ st1 fun b hb o q => by rw [<- hh₄]; exact Heap.get?_push_of_some _ ((hs₃.2 b (hne b hb)).trans ((hs₂.2 b (hne b hb)).trans q))
    show wpAny _ _ (Builtin.SmallTypes.ownedTupleIsFree (.ref e) >>= _) _ _ ⟨h₄, g, d, tk + 1, os⟩
    refine wpAny_bind ?_
    unfold Builtin.SmallTypes.ownedTupleIsFree
    refine wpAny_bind (wpAny_field he₄ rfl (x := .none) rfl (wpAny_pure ?_))
    simp only [if_true]
    refine wpAny_bind (wpAny_rule ?_)
    refine wpAny_bind (wpAny_field he₄ rfl (x := old) rfl ?_)
    refine wpAny_bind (wpAny_setField_rec he₄ (by simp) fun h₅ he₅ hs₅ => ?_)
    replace hs₅ : Heap.SameBut e h₄ h₅ := hs₅
    replace he₅ : IsEnum h₅ e it ((i : Int) + 1) u := he₅
    show wpAny _ _ (Builtin.SmallTypes.ownedTupleHandOut (.ref e) (.ref h₃.objs.size) >>= _) _ _ ⟨h₅, g, d, tk + 1, os⟩
    refine wpAny_bind ?_
    unfold Builtin.SmallTypes.ownedTupleHandOut
    refine wpAny_bind (wpAny_setField_rec he₅ (by simp) fun h₆ he₆ hs₆ => ?_)
    replace hs₆ : Heap.SameBut e h₅ h₆ := hs₆
    replace he₆ : IsEnumOut h₆ e it ((i : Int) + 1) u h₃.objs.size := he₆
    refine wpAny_setField_rec he₆ (by simp) fun h₇ he₇ hs₇ => ?_
    replace hs₇ : Heap.SameBut e h₆ h₇ := hs₇
    replace he₇ : IsEnumOut h₇ e it ((i : Int) + 1) u h₃.objs.size := he₇
    refine wpAny_bind (wpAny_letGo (wpAny_pure ⟨_, rfl, wpAny_pure ⟨_, rfl, ?_⟩⟩))
    unfold letOwnedTupleGo
    refine wpAny_bind (wpAny_load he₇ ?_)
    show wpAny _ _ (if (["enumerate", "zip", "dict_itemiterator", "dict_reverseitemiterator", "odict_iterator", "itertools.zip_longest", "itertools.pairwise"].contains "enumerate" &&
      (#[rawInt h₃.objs.size, .bool false, .ref it, rawInt ((i : Int) + 1), .none, u] : Array Value)[0]? == some (rawInt h₃.objs.size)) = true then _ else _) _ _ _
    rw [if_pos (by simp)]
    refine wpAny_bind (wpAny_rule ?_)
    show wpAny _ _ (setField (.ref e) 0 .none) _ _ _
    refine wpAny_setField_rec he₇ (by simp) fun h₈ he₈ hs₈ => ?_
    replace hs₈ : Heap.SameBut e h₇ h₈ := hs₈
    replace he₈ : IsEnum h₈ e it ((i : Int) + 1) u := he₈
    have k8 : ∀ b o, b ≠ e -> h₄.get? b = some o -> h₈.get? b = some o := fun b o hb q => (hs₈.2 b hb).trans ((hs₇.2 b hb).trans ((hs₆.2 b hb).trans ((hs₅.2 b hb).trans q)))
    refine ⟨.ref h₃.objs.size, _, I4.turned (t' := tk + 1) (fun b o hb q => k8 b o hb q) fe4 f1 f3 f4 f5, rfl, ⟨x, H1, h₃.objs.size, yl, hf4, rfl, rfl⟩, ⟨T.keep _ _ _ st4 fun b hb o q => k8 b o (hne b hb) q, u, he₈⟩, fun b hb => ?_⟩
    rcases g0q.mp hb with rfl | hb
    · exact fe4
    · obtain ⟨o, q, _⟩ := T.obj _ _ st1 b hb
      have q3 : h₃.get? b = some o := (hs₃.2 b (hne b hb)).trans ((hs₂.2 b (hne b hb)).trans q)
      rw [zE (g1g (Heap.lt_size q3))]
      exact fr1 b hb
  done := by
    intro X hP hw hK hc i pins s σ H E I hf st hg
    subst hP hw hK
    obtain ⟨st, old, he⟩ := st
    have hT : s.TypeIs (.ref e) "enumerate" := ⟨_, he, rfl⟩
    unfold pyNext
    refine wpAny_bind (wpAny_attempt (wpAny_callSpecial?_slot (name := Str.ofString "__next__") hT F.slot_enumerate_next
      (wpAny_call_entry F.slot_enumerate_next hT F.entry_enumerate_next ?_ (F.args_enumerate_next_1 _))))
    show wpAny _ _ (field (.ref e) 2 >>= _) _ _ _
    refine wpAny_bind (wpAny_field he rfl (x := .ref it) rfl ?_)
    refine wpAny_bind (wpAny_mono (T.fin X.A.in1 X rfl rfl rfl (I.ok.hd hc) i pins s σ H _ I (fun b hb => hf b (g0m _ hb)) st hg) (fun u s1 z => z) fun e' s1 h1 => ?_)
    obtain ⟨I1, a, o, rfl, ho, hcl⟩ := h1
    refine wpAny_bind (wpAny_isInstance (T := "StopIteration") (b := true) ⟨o, ho, hcl⟩ isSubtype_stop ?_)
    exact wpAny_pure ⟨rfl, I1⟩
  self := fun A i s Q E st h => by
    obtain ⟨_, old, he⟩ := st
    have hT : s.TypeIs (.ref e) "enumerate" := ⟨_, he, rfl⟩
    refine wpAny_pyIter_slot hT F.slot_enumerate_iter (wpAny_call_entry F.slot_enumerate_iter hT F.entry_enumerate_iter ?_ (F.args_enumerate_iter_1 _))
    show wpAny _ _ (ret (.ref e)) _ _ s
    exact wpAny_pure ⟨_, rfl, "enumerate", _, hT, F.slot_enumerate_next.lookup, h⟩
def ItZ (J1 J2 : It) : It := ⟨fun i H => J1.go i H /\ ∀ x H1, J1.yld i H x H1 -> J2.go i H1, fun i H x H' => ∃ y1 y2 H1 H2 p, J1.yld i H y1 H1 /\ J2.yld i H1 y2 H2 /\ H2 p = none /\ x = .ref p /\ H' = upd H2 p (.tup [y1, y2]),
 fun i H => J1.stop i H \/ (J1.go i H /\ ∀ x H1, J1.yld i H x H1 -> H1 = H /\ J2.stop i H)⟩
theorem q9.moreL {X : Cx} {pins : List (Addr × Obj)} {H : Hp} {b : Addr} {L : List Addr} {h : Heap} (f : q9 X pins H b) (hne : b ∉ L) : q9 X (pins ++ km L h) H b := by
 obtain ⟨f0, f1, f2, f3, f4, f5⟩ := f
 refine ⟨f0, f1, f2, f3, f4, fun p hp z => ?_⟩
 rcases g1m.mp hp with q | q
 ·exact f5 p (g2x _ q) z
 ·rcases g1m.mp q with q | q
  ·exact f5 p (g0v _ q) z
  ·have := (Zo q).1
   exact hne (z ▸ this)
theorem wW {X : Cx} {pins : List (Addr × Obj)} {L : List Addr} {h : Heap} {σ : St} {H : Hp} {s : Shared} (I : Inv X (pins ++ km L h) σ H s) {b : Addr} {o : Obj} (hb : b ∈ L) (e : h.get? b = some o) : s.heap.get? b = some o /\ H b = none := by
 obtain ⟨q1, q2, _⟩ := I.pin _ (g0v _ (g0v _ (xQ hb e)))
 exact ⟨q1, q2⟩
theorem uW {X : Cx} {pins : List (Addr × Obj)} {σ : St} {H : Hp} {s : Shared} {h' : Heap} {t' : Nat} {b : Addr} (I : Inv X pins σ H s) (hs : Heap.SameBut b s.heap h') (f : q9 X pins H b) : Inv X pins σ H { s with heap := h', toks := t' } := by
 obtain ⟨f0, f1, f2, f3, f4, f5⟩ := f
 exact I.turned (t' := t') (fun c o hb q => (hs.2 c hb).trans q) f0 f1 f3 f4 f5
structure ZApart (z TI TO : Addr) (fp1 fp2 : List Addr) : Prop where
 a1 : z ≠ TI
 a2 : z ≠ TO
 a3 : TI ≠ TO
 z1 : ∀ b ∈ fp1 ++ fp2, b ≠ z
 z2 : ∀ b ∈ fp1 ++ fp2, b ≠ TI
 z3 : ∀ b ∈ fp1 ++ fp2, b ≠ TO
 d : ∀ b ∈ fp1, b ∉ fp2
section
variable {P : Program} {w : World} {K : W.Frag} {J1 J2 : It} {fp1 fp2 : List Addr} {i1 i2 z TI TO : Addr} {tn1 tn2 : Nat -> Heap -> Prop}
def tnZ (tn1 tn2 : Nat -> Heap -> Prop) (z TI TO i1 i2 : Addr) (i : Nat) (h : Heap) : Prop := tn1 i h /\ tn2 i h /\ IsZip h z TI TO .none /\ IsPair h TI (.ref i1) (.ref i2) /\ ∃ a b, IsPair h TO a b
theorem KH {elts : List Expr} {kx : Nat} {tp : Pos} (D1 : Draw P w K J1 fp1 i1 tn1) (D2 : Draw P w K J2 fp2 i2 tn2) (Z : ZApart z TI TO fp1 fp2) :
  Turn P w K (.Tuple elts kx tp) (ItZ J1 J2) (z :: TI :: TO :: (fp1 ++ fp2)) z (tnZ tn1 tn2 z TI TO i1 i2) where
 mem := g0s
 obj := fun i h st b hb => by
  obtain ⟨s1, s2, hz, hTI, a, b', hTO⟩ := st
  rcases g0q.mp hb with rfl | hb
  ·exact ⟨_, hz, fun v z => by cases z⟩
  rcases g0q.mp hb with rfl | hb
  ·exact ⟨_, hTI, fun v z => by cases z⟩
  rcases g0q.mp hb with rfl | hb
  ·exact ⟨_, hTO, fun v z => by cases z⟩
  rcases g1m.mp hb with hb | hb
  ·exact D1.obj i h s1 b hb
  ·exact D2.obj i h s2 b hb
 keep := fun i h h' st k => by
  obtain ⟨s1, s2, hz, hTI, a, b', hTO⟩ := st
  refine ⟨D1.keep i h h' s1 fun b hb o e => k b (by simp [hb]) o e, D2.keep i h h' s2 fun b hb o e => k b (by simp [hb]) o e, k z (by simp) _ hz, k TI (by simp) _ hTI, a, b', k TO (by simp) _ hTO⟩
 item := by
  intro X hP hw hK hc i pins s σ H E I hf st hg
  subst hP hw hK
  obtain ⟨s1, s2, hz, hTI, a, b', hTO⟩ := st
  obtain ⟨g1, g2⟩ := hg
  have hT : s.TypeIs (.ref z) "zip" := ⟨_, hz, rfl⟩
  have fz := hf z (by simp)
  have fTI := hf TI (by simp)
  have fTO := hf TO (by simp)
  have ff1 : ∀ b ∈ fp1, q9 X pins H b := fun b hb => hf b (by simp [hb])
  have ff2 : ∀ b ∈ fp2, q9 X pins H b := fun b hb => hf b (by simp [hb])
  have n1z : ∀ b ∈ fp1, b ≠ z := fun b hb => Z.z1 b (by simp [hb])
  have n2z : ∀ b ∈ fp2, b ≠ z := fun b hb => Z.z1 b (by simp [hb])
  have n1I : ∀ b ∈ fp1, b ≠ TI := fun b hb => Z.z2 b (by simp [hb])
  have n2I : ∀ b ∈ fp2, b ≠ TI := fun b hb => Z.z2 b (by simp [hb])
  have n1O : ∀ b ∈ fp1, b ≠ TO := fun b hb => Z.z3 b (by simp [hb])
  have n2O : ∀ b ∈ fp2, b ≠ TO := fun b hb => Z.z3 b (by simp [hb])
  unfold pyNext
  refine wpAny_bind (wpAny_attempt (wpAny_callSpecial?_slot (name := Str.ofString "__next__") hT F.slot_zip_next (wpAny_call_entry F.slot_zip_next hT F.entry_zip_next ?_ (F.args_zip_next_1 _))))
  show wpAny _ _ (field (.ref z) 2 >>= _) _ _ _
  refine wpAny_bind (wpAny_field hz rfl (x := .bool false) rfl ?_)
  show wpAny _ _ (field (.ref z) 3 >>= _) _ _ _
  refine wpAny_bind (wpAny_field hz rfl (x := .ref TI) rfl ?_)
  refine wpAny_bind (wpAny_seqItems hTI rfl ?_)
  show wpAny _ _ (Builtin.SmallTypes.ownedTupleIsFree (.ref z) >>= _) _ _ _
  refine wpAny_bind ?_
  unfold Builtin.SmallTypes.ownedTupleIsFree
  refine wpAny_bind (wpAny_field hz rfl (x := .none) rfl (wpAny_pure ?_))
  simp only [if_true]
  refine wpAny_bind (wpAny_rule ?_)
  refine wpAny_bind (wpAny_field hz rfl (x := .ref TO) rfl ?_)
  refine wpAny_bind (wpAny_setField_rec hz (by simp) fun h₁ hz₁ hs₁ => ?_)
  replace hz₁ : IsZip h₁ z TI TO .ellipsis := hz₁
  have I1 : Inv X pins σ H { s with heap := h₁ } := uW (t' := s.toks) I hs₁ fz
  have hTI₁ : IsPair h₁ TI (.ref i1) (.ref i2) := (hs₁.2 TI (Ne.symm Z.a1)).trans hTI
  have hTO₁ : IsPair h₁ TO a b' := (hs₁.2 TO (Ne.symm Z.a2)).trans hTO
  have s1₁ : tn1 i h₁ := D1.keep _ _ _ s1 fun b hb o e => (hs₁.2 b (n1z b hb)).trans e
  have s2₁ : tn2 i h₁ := D2.keep _ _ _ s2 fun b hb o e => (hs₁.2 b (n2z b hb)).trans e
  refine wpAny_bind ?_
  simp only [List.zipIdx_cons, List.zipIdx_nil, List.forIn_cons, List.forIn_nil]
  refine wpAny_bind (wpAny_bind (wpAny_onRaise ?_))
  show wpAny _ _ (Builtin.SmallTypes.nextOf (.ref i1) >>= _) _ _ _
  have I1p := I1.pinned (fp := z :: TI :: TO :: fp2) (fun b hb => by
   rcases g0q.mp hb with rfl | hb
   ·exact fz
   rcases g0q.mp hb with rfl | hb
   ·exact fTI
   rcases g0q.mp hb with rfl | hb
   ·exact fTO
   ·exact ff2 b hb) (fun b hb => by
   rcases g0q.mp hb with rfl | hb
   ·exact ⟨_, hz₁, fun v z => by cases z⟩
   rcases g0q.mp hb with rfl | hb
   ·exact ⟨_, hTI₁, fun v z => by cases z⟩
   rcases g0q.mp hb with rfl | hb
   ·exact ⟨_, hTO₁, fun v z => by cases z⟩
   ·exact D2.obj _ _ s2₁ b hb)
  refine wpAny_bind (wpAny_mono (D1.item _ X rfl rfl rfl i _ _ σ H _ I1p (fun b hb => q9.moreL (ff1 b hb) (by
   intro hm
   rcases g0q.mp hm with e | hm
   ·exact n1z b hb e
   rcases g0q.mp hm with e | hm
   ·exact n1I b hb e
   rcases g0q.mp hm with e | hm
   ·exact n1O b hb e
   ·exact Z.d b hb hm)) s1₁ g1) (fun u1 s3 h3 => wpAny_pure ?_) fun _ _ z => z)
  obtain ⟨x1, H3, I3, r3, y3, st3, fr3⟩ := h3
  obtain ⟨hz₃, fz3⟩ := wW I3 (b := z) (by simp) hz₁
  obtain ⟨hTI₃, fTI3⟩ := wW I3 (b := TI) (by simp) hTI₁
  obtain ⟨hTO₃, fTO3⟩ := wW I3 (b := TO) (by simp) hTO₁
  have hz₃ : IsZip s3.heap z TI TO .ellipsis := hz₃
  have hTI₃ : IsPair s3.heap TI (.ref i1) (.ref i2) := hTI₃
  have hTO₃ : IsPair s3.heap TO a b' := hTO₃
  have s2₃ : tn2 i s3.heap := D2.keep _ _ _ s2₁ fun b hb o e => (wW I3 (by simp [hb]) e).1
  have ff2₃ : ∀ b ∈ fp2, H3 b = none := fun b hb => by
   obtain ⟨o, e, _⟩ := D2.obj _ _ s2₁ b hb
   exact (wW I3 (by simp [hb]) e).2
  have I3 := I3.unpinned
  refine wpAny_bind (wpAny_seqItems hTO₃ rfl ?_)
  refine wpAny_bind (wpAny_updateSeq_pair hTO₃ fun h₄ hTO₄ hs₄ => ?_)
  replace hTO₄ : IsPair h₄ TO u1 b' := hTO₄
  refine wpAny_bind (wpAny_letGo (wpAny_pure ?_))
  have I4 : Inv X pins σ H3 { s3 with heap := h₄ } := uW (t' := s3.toks) I3 hs₄ ⟨fTO3, fTO.2⟩
  have hz₄ : IsZip h₄ z TI TO .ellipsis := (hs₄.2 z Z.a2).trans hz₃
  have hTI₄ : IsPair h₄ TI (.ref i1) (.ref i2) := (hs₄.2 TI Z.a3).trans hTI₃
  have st4 : tn1 (i + 1) h₄ := D1.keep _ _ _ st3 fun b hb o e => (hs₄.2 b (n1O b hb)).trans e
  have s2₄ : tn2 i h₄ := D2.keep _ _ _ s2₃ fun b hb o e => (hs₄.2 b (n2O b hb)).trans e
  refine wpAny_bind (wpAny_bind (wpAny_onRaise ?_))
  show wpAny _ _ (Builtin.SmallTypes.nextOf (.ref i2) >>= _) _ _ _
  have I4p := I4.pinned (fp := z :: TI :: TO :: fp1) (fun b hb => by
   rcases g0q.mp hb with rfl | hb
   ·exact ⟨fz3, fz.2⟩
   rcases g0q.mp hb with rfl | hb
   ·exact ⟨fTI3, fTI.2⟩
   rcases g0q.mp hb with rfl | hb
   ·exact ⟨fTO3, fTO.2⟩
   ·exact ⟨fr3 b hb, (ff1 b hb).2⟩) (fun b hb => by
   rcases g0q.mp hb with rfl | hb
   ·exact ⟨_, hz₄, fun v z => by cases z⟩
   rcases g0q.mp hb with rfl | hb
   ·exact ⟨_, hTI₄, fun v z => by cases z⟩
   rcases g0q.mp hb with rfl | hb
   ·exact ⟨_, hTO₄, fun v z => by cases z⟩
   ·exact D1.obj _ _ st4 b hb)
  refine wpAny_bind (wpAny_mono (D2.item _ X rfl rfl rfl i _ _ σ H3 _ I4p (fun b hb => q9.moreL ⟨ff2₃ b hb, (ff2 b hb).2⟩ (by
   intro hm
   rcases g0q.mp hm with e | hm
   ·exact n2z b hb e
   rcases g0q.mp hm with e | hm
   ·exact n2I b hb e
   rcases g0q.mp hm with e | hm
   ·exact n2O b hb e
   ·exact Z.d b hm hb)) s2₄ (g2 _ _ y3)) (fun u2 s5 h5 => wpAny_pure ?_) fun _ _ z => z)
  obtain ⟨x2, H5, I5, r5, y5, st5, fr5⟩ := h5
  obtain ⟨hz₅, fz5⟩ := wW I5 (b := z) (by simp) hz₄
  obtain ⟨hTI₅, fTI5⟩ := wW I5 (b := TI) (by simp) hTI₄
  obtain ⟨hTO₅, fTO5⟩ := wW I5 (b := TO) (by simp) hTO₄
  have hz₅ : IsZip s5.heap z TI TO .ellipsis := hz₅
  have hTI₅ : IsPair s5.heap TI (.ref i1) (.ref i2) := hTI₅
  have hTO₅ : IsPair s5.heap TO u1 b' := hTO₅
  have st5' : tn1 (i + 1) s5.heap := D1.keep _ _ _ st4 fun b hb o e => (wW I5 (by simp [hb]) e).1
  have ff1₅ : ∀ b ∈ fp1, H5 b = none := fun b hb => by
   obtain ⟨o, e, _⟩ := D1.obj _ _ st4 b hb
   exact (wW I5 (by simp [hb]) e).2
  have I5 := I5.unpinned
  refine wpAny_bind (wpAny_seqItems hTO₅ rfl ?_)
  refine wpAny_bind (wpAny_updateSeq_pair hTO₅ fun h₆ hTO₆ hs₆ => ?_)
  replace hTO₆ : IsPair h₆ TO u1 u2 := hTO₆
  refine wpAny_bind (wpAny_letGo (wpAny_pure (wpAny_pure ?_)))
  have I6 : Inv X pins σ H5 { s5 with heap := h₆ } := uW (t' := s5.toks) I5 hs₆ ⟨fTO5, fTO.2⟩
  have hz₆ : IsZip h₆ z TI TO .ellipsis := (hs₆.2 z Z.a2).trans hz₅
  have hTI₆ : IsPair h₆ TI (.ref i1) (.ref i2) := (hs₆.2 TI Z.a3).trans hTI₅
  have st6 : tn1 (i + 1) h₆ := D1.keep _ _ _ st5' fun b hb o e => (hs₆.2 b (n1O b hb)).trans e
  have st6' : tn2 (i + 1) h₆ := D2.keep _ _ _ st5 fun b hb o e => (hs₆.2 b (n2O b hb)).trans e
  refine wpAny_bind (wpAny_seqItems hTO₆ rfl ?_)
  refine wpAny_bind (wpAny_newTuple ?_)
  have hf7 : H5 h₆.objs.size = none := I6.hok.fresh (g0r _)
  have I7 : Inv X pins σ (upd H5 h₆.objs.size (.tup [x1, x2])) { s5 with heap := h₆.push { cls := .type "tuple", data := .seq #[u1, u2] } } :=
   I6.laid (t' := s5.toks) (fun b u e => Heap.get?_push_of_some _ e) (g0r _) ⟨by show 2 <= sizeLine; decide, [u1, u2], .cons r3 (.cons r5 .nil), ⟨_, Heap.get?_push_size _ rfl, rfl, _, rfl⟩⟩
  have lz : z < h₆.objs.size := Heap.lt_size hz₆
  have lTI : TI < h₆.objs.size := Heap.lt_size hTI₆
  have lTO : TO < h₆.objs.size := Heap.lt_size hTO₆
  show wpAny _ _ (Builtin.SmallTypes.ownedTupleHandOut (.ref z) (.ref h₆.objs.size) >>= _) _ _ _
  refine wpAny_bind ?_
  unfold Builtin.SmallTypes.ownedTupleHandOut
  have hz₇ : IsZip (h₆.push { cls := .type "tuple", data := .seq #[u1, u2] }) z TI TO .ellipsis := Heap.get?_push_of_some _ hz₆
  refine wpAny_bind (wpAny_setField_rec hz₇ (by simp) fun h₈ hz₈ hs₈ => ?_)
  replace hz₈ : IsZip h₈ z TI TO (rawInt h₆.objs.size) := hz₈
  refine wpAny_setField_rec hz₈ (by simp) fun h₉ hz₉ hs₉ => ?_
  replace hz₉ : IsZip h₉ z TI TO (rawInt h₆.objs.size) := hz₉
  refine wpAny_pure ⟨_, rfl, wpAny_pure ⟨_, rfl, ?_⟩⟩
  refine wpAny_letOwnedTupleGo_zip hz₉ fun h₀ hz₀ hs₀ => ?_
  have up : ∀ c o, c ≠ z -> h₆.get? c = some o -> h₀.get? c = some o := fun c o hc e => (hs₀.2 c hc).trans ((hs₉.2 c hc).trans ((hs₈.2 c hc).trans (Heap.get?_push_of_some _ e)))
  have fz7 : (upd H5 h₆.objs.size (.tup [x1, x2])) z = none := by rw [zE (g1g lz)]; exact fz5
  refine ⟨.ref h₆.objs.size, _, I7.turned (t' := s5.toks) (fun b o hb q => (hs₀.2 b hb).trans ((hs₉.2 b hb).trans ((hs₈.2 b hb).trans q))) fz7 fz.2.1 fz.2.2.2.1 fz.2.2.2.2.1 fz.2.2.2.2.2, rfl, ⟨x1, x2, H3, H5, _, y3, y5, hf7, rfl, rfl⟩,
   ⟨D1.keep _ _ _ st6 fun b hb o e => up b o (n1z b hb) e, D2.keep _ _ _ st6' fun b hb o e => up b o (n2z b hb) e, hz₀, up _ _ (Ne.symm Z.a1) hTI₆, _, _, up _ _ (Ne.symm Z.a2) hTO₆⟩, fun b hb => ?_⟩
  have old : ∀ b, b < h₆.objs.size -> H5 b = none -> (upd H5 h₆.objs.size (.tup [x1, x2])) b = none := fun b hl hn => by rw [zE (g1g hl)]; exact hn
  rcases g0q.mp hb with rfl | hb
  ·exact fz7
  rcases g0q.mp hb with rfl | hb
  ·exact old _ lTI fTI5
  rcases g0q.mp hb with rfl | hb
  ·exact old _ lTO fTO5
  rcases g1m.mp hb with hb | hb
  ·obtain ⟨o, q, _⟩ := D1.obj _ _ st6 b hb
   exact old b (Heap.lt_size q) (ff1₅ b hb)
  ·obtain ⟨o, q, _⟩ := D2.obj _ _ st6' b hb
   exact old b (Heap.lt_size q) (fr5 b hb)
 done := by
  intro X hP hw hK hc i pins s σ H E I hf st hg
  subst hP hw hK
  obtain ⟨s1, s2, hz, hTI, a, b', hTO⟩ := st
  have hT : s.TypeIs (.ref z) "zip" := ⟨_, hz, rfl⟩
  have fz := hf z (by simp)
  have fTI := hf TI (by simp)
  have fTO := hf TO (by simp)
  have ff1 : ∀ b ∈ fp1, q9 X pins H b := fun b hb => hf b (by simp [hb])
  have ff2 : ∀ b ∈ fp2, q9 X pins H b := fun b hb => hf b (by simp [hb])
  have n1z : ∀ b ∈ fp1, b ≠ z := fun b hb => Z.z1 b (by simp [hb])
  have n2z : ∀ b ∈ fp2, b ≠ z := fun b hb => Z.z1 b (by simp [hb])
  have n1I : ∀ b ∈ fp1, b ≠ TI := fun b hb => Z.z2 b (by simp [hb])
  have n2I : ∀ b ∈ fp2, b ≠ TI := fun b hb => Z.z2 b (by simp [hb])
  have n1O : ∀ b ∈ fp1, b ≠ TO := fun b hb => Z.z3 b (by simp [hb])
  have n2O : ∀ b ∈ fp2, b ≠ TO := fun b hb => Z.z3 b (by simp [hb])
  unfold pyNext
  refine wpAny_bind (wpAny_attempt (wpAny_callSpecial?_slot (name := Str.ofString "__next__") hT F.slot_zip_next (wpAny_call_entry F.slot_zip_next hT F.entry_zip_next ?_ (F.args_zip_next_1 _))))
  show wpAny _ _ (field (.ref z) 2 >>= _) _ _ _
  refine wpAny_bind (wpAny_field hz rfl (x := .bool false) rfl ?_)
  show wpAny _ _ (field (.ref z) 3 >>= _) _ _ _
  refine wpAny_bind (wpAny_field hz rfl (x := .ref TI) rfl ?_)
  refine wpAny_bind (wpAny_seqItems hTI rfl ?_)
  show wpAny _ _ (Builtin.SmallTypes.ownedTupleIsFree (.ref z) >>= _) _ _ _
  refine wpAny_bind ?_
  unfold Builtin.SmallTypes.ownedTupleIsFree
  refine wpAny_bind (wpAny_field hz rfl (x := .none) rfl (wpAny_pure ?_))
  simp only [if_true]
  refine wpAny_bind (wpAny_rule ?_)
  refine wpAny_bind (wpAny_field hz rfl (x := .ref TO) rfl ?_)
  refine wpAny_bind (wpAny_setField_rec hz (by simp) fun h₁ hz₁ hs₁ => ?_)
  replace hz₁ : IsZip h₁ z TI TO .ellipsis := hz₁
  have I1 : Inv X pins σ H { s with heap := h₁ } := uW (t' := s.toks) I hs₁ fz
  have hTI₁ : IsPair h₁ TI (.ref i1) (.ref i2) := (hs₁.2 TI (Ne.symm Z.a1)).trans hTI
  have hTO₁ : IsPair h₁ TO a b' := (hs₁.2 TO (Ne.symm Z.a2)).trans hTO
  have s1₁ : tn1 i h₁ := D1.keep _ _ _ s1 fun b hb o e => (hs₁.2 b (n1z b hb)).trans e
  have s2₁ : tn2 i h₁ := D2.keep _ _ _ s2 fun b hb o e => (hs₁.2 b (n2z b hb)).trans e
  have I1p := I1.pinned (fp := z :: TI :: TO :: fp2) (fun b hb => by
   rcases g0q.mp hb with rfl | hb
   ·exact fz
   rcases g0q.mp hb with rfl | hb
   ·exact fTI
   rcases g0q.mp hb with rfl | hb
   ·exact fTO
   ·exact ff2 b hb) (fun b hb => by
   rcases g0q.mp hb with rfl | hb
   ·exact ⟨_, hz₁, fun v z => by cases z⟩
   rcases g0q.mp hb with rfl | hb
   ·exact ⟨_, hTI₁, fun v z => by cases z⟩
   rcases g0q.mp hb with rfl | hb
   ·exact ⟨_, hTO₁, fun v z => by cases z⟩
   ·exact D2.obj _ _ s2₁ b hb)
  have out1 : ∀ b ∈ fp1, q9 X (pins ++ km (z :: TI :: TO :: fp2) h₁) H b := fun b hb => q9.moreL (ff1 b hb) (by
   intro hm
   rcases g0q.mp hm with e | hm
   ·exact n1z b hb e
   rcases g0q.mp hm with e | hm
   ·exact n1I b hb e
   rcases g0q.mp hm with e | hm
   ·exact n1O b hb e
   ·exact Z.d b hb hm)
  refine wpAny_bind ?_
  simp only [List.zipIdx_cons, List.zipIdx_nil, List.forIn_cons, List.forIn_nil]
  refine wpAny_bind (wpAny_bind (wpAny_onRaise ?_))
  show wpAny _ _ (Builtin.SmallTypes.nextOf (.ref i1) >>= _) _ _ _
  rcases hg with hg | ⟨g1, hg⟩
  ·refine wpAny_bind (wpAny_mono (D1.fin X.A.in1 X rfl rfl rfl (I.ok.hd hc) i _ _ σ H _ I1p out1 s1₁ hg) (fun _ _ z => z) fun e s3 h3 => ?_)
   obtain ⟨I3, c, o, rfl, ho, hcl⟩ := h3
   obtain ⟨hz₃, fz3⟩ := wW I3 (b := z) (by simp) hz₁
   have hz₃ : IsZip s3.heap z TI TO .ellipsis := hz₃
   have hcz : c ≠ z := fun x => by subst x; rw [hz₃] at ho; cases ho; simp at hcl
   refine wpAny_setField_rec hz₃ (by simp) fun h₄ hz₄ hs₄ => ?_
   refine wpAny_bind (wpAny_isInstance (T := "StopIteration") (b := true) ⟨o, (hs₄.2 c hcz).trans ho, hcl⟩ isSubtype_stop ?_)
   exact wpAny_pure ⟨rfl, uW (t' := s3.toks) I3.unpinned hs₄ ⟨fz3, fz.2⟩⟩
  ·refine wpAny_bind (wpAny_mono (D1.item _ X rfl rfl rfl i _ _ σ H _ I1p out1 s1₁ g1) (fun u1 s3 h3 => wpAny_pure ?_) fun _ _ z => z)
   obtain ⟨x1, H3, I3, r3, y3, st3, fr3⟩ := h3
   obtain ⟨rfl, hst⟩ := hg _ _ y3
   obtain ⟨hz₃, fz3⟩ := wW I3 (b := z) (by simp) hz₁
   obtain ⟨hTI₃, fTI3⟩ := wW I3 (b := TI) (by simp) hTI₁
   obtain ⟨hTO₃, fTO3⟩ := wW I3 (b := TO) (by simp) hTO₁
   have hz₃ : IsZip s3.heap z TI TO .ellipsis := hz₃
   have hTO₃ : IsPair s3.heap TO a b' := hTO₃
   have s2₃ : tn2 i s3.heap := D2.keep _ _ _ s2₁ fun b hb o e => (wW I3 (by simp [hb]) e).1
   have I3 := I3.unpinned
   refine wpAny_bind (wpAny_seqItems hTO₃ rfl ?_)
   refine wpAny_bind (wpAny_updateSeq_pair hTO₃ fun h₄ hTO₄ hs₄ => ?_)
   refine wpAny_bind (wpAny_letGo (wpAny_pure ?_))
   have I4 : Inv X pins σ H3 { s3 with heap := h₄ } := uW (t' := s3.toks) I3 hs₄ ⟨fTO3, fTO.2⟩
   have hz₄ : IsZip h₄ z TI TO .ellipsis := (hs₄.2 z Z.a2).trans hz₃
   have s2₄ : tn2 i h₄ := D2.keep _ _ _ s2₃ fun b hb o e => (hs₄.2 b (n2O b hb)).trans e
   refine wpAny_bind (wpAny_bind (wpAny_onRaise ?_))
   show wpAny _ _ (Builtin.SmallTypes.nextOf (.ref i2) >>= _) _ _ _
   have I4p := I4.pinned (fp := [z]) (fun b hb => by
    have e : b = z := by simpa using hb
    subst e; exact ⟨fz3, fz.2⟩) (fun b hb => by
    have e : b = z := by simpa using hb
    subst e; exact ⟨_, hz₄, fun v z => by cases z⟩)
   refine wpAny_bind (wpAny_mono (D2.fin X.A.in1 X rfl rfl rfl (I.ok.hd hc) i _ _ σ H3 _ I4p (fun b hb => q9.moreL (ff2 b hb) (by
    intro hm
    exact n2z b hb (by simpa using hm))) s2₄ hst) (fun _ _ z => z) fun e s5 h5 => ?_)
   obtain ⟨I5, c, o, rfl, ho, hcl⟩ := h5
   obtain ⟨hz₅, fz5⟩ := wW I5 (b := z) (by simp) hz₄
   have hz₅ : IsZip s5.heap z TI TO .ellipsis := hz₅
   have hcz : c ≠ z := fun x => by subst x; rw [hz₅] at ho; cases ho; simp at hcl
   refine wpAny_setField_rec hz₅ (by simp) fun h₆ hz₆ hs₆ => ?_
   refine wpAny_bind (wpAny_isInstance (T := "StopIteration") (b := true) ⟨o, (hs₆.2 c hcz).trans ho, hcl⟩ isSubtype_stop ?_)
   exact wpAny_pure ⟨rfl, uW (t' := s5.toks) I5.unpinned hs₆ ⟨fz5, fz.2⟩⟩
 self := fun A i s Q E st h => wpAny_pyIter_zip st.2.2.1 h
end
def SqH (b : Bool) (h : Heap) (a : Addr) (its : Array Value) : Prop := if b = true then h.IsList a its else h.IsTuple a its
def wK (b : Bool) (a : Addr) : Obj := { cls := .type (if b = true then "list_iterator" else "tuple_iterator"), data := .fields #[.ref a, .int 0 0] }
theorem SqH.push {b : Bool} {h : Heap} {a : Addr} {its : Array Value} (q : SqH b h a its) (o : Obj) : SqH b (h.push o) a its := by
 cases b with
 | true => exact Heap.IsList.push q o
 | false => exact Heap.IsTuple.push q o
section
variable {prog : Program} {w : World} {A : Around} {E : Value -> Shared -> Prop} {s : Shared}
theorem uq {b : Bool} {a : Addr} {its : Array Value} {Q : Value -> Shared -> Prop} (q : SqH b s.heap a its) (h : Q (.ref s.heap.objs.size) { s with heap := s.heap.push (wK b a) }) : wpAny (model prog w) A (pyIter (.ref a)) Q E s := by
 cases b with
 | true => exact wpAny_pyIter_list q h
 | false => exact wpAny_pyIter_tuple q h
theorem U2 (b : Bool) (a : Addr) (its : Array Value) :
  Meets (Builtin.«enumerate.__new__» ⟨[.type "enumerate", .ref a], []⟩) (fun _ R s => SqH b s.heap a its ∧
   R (.ok (.ret (.ref (s.heap.push (wK b a)).objs.size))) { s with heap := (s.heap.push (wK b a)).push { cls := .type "enumerate", data := .fields #[.none, .bool false, .ref s.heap.objs.size, rawInt 0, .none, .none] } }) :=
 .of_wp fun prog w A R s h => by
  obtain ⟨hp, g, d, tk, os⟩ := s; obtain ⟨hl, h⟩ := h
  have hsub := sub_enumerate
  have hL : SqH b (Shared.heap ⟨hp, g, d, tk, os⟩) a its := hl
  wp_walk using uq hL
  refine wpAny_stack_any fun st => wpAny_pure ?_
  split
  ·rename_i c _ _ _ _ _
   cases (c == Value.type "enumerate")
   ·wp_walk using uq hL
    exact ⟨_, rfl, h⟩
   ·wp_walk using uq hL
    exact ⟨_, rfl, h⟩
  ·wp_walk using uq hL
   exact ⟨_, rfl, h⟩
theorem Kp {b : Bool} {a : Addr} {its : Array Value} {Q : Value -> Shared -> Prop} (hL : SqH b s.heap a its)
  (h : ∀ h', IsEnum h' (s.heap.objs.size + 1) s.heap.objs.size 0 .none -> h'.get? s.heap.objs.size = some (wK b a) -> (∀ b o, s.heap.get? b = some o -> h'.get? b = some o) -> Q (.ref (s.heap.objs.size + 1)) { s with heap := h' }) :
  wpAny (model prog w) A (call (.type "enumerate") [.ref a]) Q E s := by
 refine callType_new F.called_enumerate (by decide) (F.typeCall_enumerate_1 _) (F.newCall_enumerate_1 _) (fun obj => F.args_object_init_2 obj _) F.entry_enumerate_new (U2 b a its) ⟨hL, ?_⟩
 have hz : (s.heap.push (wK b a)).objs.size = s.heap.objs.size + 1 := Heap.size_push ..
 show _ /\ _
 rw [hz]
 have he : IsEnum ((s.heap.push (wK b a)).push { cls := .type "enumerate", data := .fields #[.none, .bool false, .ref s.heap.objs.size, rawInt 0, .none, .none] }) (s.heap.objs.size + 1) s.heap.objs.size 0 .none := by
  have := Heap.get?_push_size (s.heap.push (wK b a)) (o := { cls := .type "enumerate", data := .fields #[.none, .bool false, .ref s.heap.objs.size, rawInt 0, .none, .none] }) rfl
  rw [hz] at this; exact this
 exact ⟨⟨_, he, rfl⟩, h _ he (Heap.get?_push_of_some _ (Heap.get?_push_size _ rfl)) fun b o x => Heap.get?_push_of_some _ (Heap.get?_push_of_some _ x)⟩
theorem JD (b1 b2 : Bool) (l1 l2 : Addr) (xs ys : Array Value) :
  Meets (Builtin.«zip.__new__» ⟨[.type "zip", .ref l1, .ref l2], []⟩) (fun _ R s => SqH b1 s.heap l1 xs /\ SqH b2 s.heap l2 ys ∧
   R (.ok (.ret (.ref ((((s.heap.push (wK b1 l1)).push (wK b2 l2)).push { cls := .type "tuple", data := .seq #[.ref s.heap.objs.size, .ref (s.heap.push (wK b1 l1)).objs.size] }).push { cls := .type "tuple", data := .seq #[.none, .none] }).objs.size)))
    { s with heap := ((((s.heap.push (wK b1 l1)).push (wK b2 l2)).push { cls := .type "tuple", data := .seq #[.ref s.heap.objs.size, .ref (s.heap.push (wK b1 l1)).objs.size] }).push { cls := .type "tuple", data := .seq #[.none, .none] }).push ({ cls := .type "zip", data := .fields #[.none, .bool false, .bool false, .ref ((s.heap.push (wK b1 l1)).push (wK b2 l2)).objs.size, .ref (((s.heap.push (wK b1 l1)).push (wK b2 l2)).push { cls := .type "tuple", data := .seq #[.ref s.heap.objs.size, .ref (s.heap.push (wK b1 l1)).objs.size] }).objs.size] } : Obj) }) :=
 .of_wp fun prog w A R s h => by
  obtain ⟨hp, g, d, tk, os⟩ := s; obtain ⟨hl1, hl2, h⟩ := h
  have hsub := sub_zip
  have hL1 : SqH b1 (Shared.heap ⟨hp, g, d, tk, os⟩) l1 xs := hl1
  have hL2 : SqH b2 (Shared.heap ⟨hp.push (wK b1 l1), g, d, tk, os⟩) l2 ys := SqH.push hl2 _
  wp_walk using uq hL1, uq hL2
  exact ⟨_, rfl, h⟩
theorem G3 {b1 b2 : Bool} {l1 l2 : Addr} {xs ys : Array Value} {Q : Value -> Shared -> Prop} (hl1 : SqH b1 s.heap l1 xs) (hl2 : SqH b2 s.heap l2 ys)
  (h : ∀ h', IsZip h' (s.heap.objs.size + 4) (s.heap.objs.size + 2) (s.heap.objs.size + 3) .none -> IsPair h' (s.heap.objs.size + 2) (.ref s.heap.objs.size) (.ref (s.heap.objs.size + 1)) →
   IsPair h' (s.heap.objs.size + 3) .none .none -> h'.get? s.heap.objs.size = some (wK b1 l1) -> h'.get? (s.heap.objs.size + 1) = some (wK b2 l2) -> (∀ c o, s.heap.get? c = some o -> h'.get? c = some o) -> Q (.ref (s.heap.objs.size + 4)) { s with heap := h' }) :
  wpAny (model prog w) A (call (.type "zip") [.ref l1, .ref l2]) Q E s := by
 refine callType_new F.called_zip (by decide) (F.typeCall_zip_2 _ _) (F.newCall_zip_2 _ _) (fun obj => F.args_object_init_3 obj _ _) F.entry_zip_new (JD b1 b2 l1 l2 xs ys) ⟨hl1, hl2, ?_⟩
 generalize e1 : s.heap.push (wK b1 l1) = h1
 generalize e2 : h1.push (wK b2 l2) = h2
 generalize e3 : h2.push { cls := .type "tuple", data := .seq #[.ref s.heap.objs.size, .ref h1.objs.size] } = h3
 generalize e4 : h3.push { cls := .type "tuple", data := .seq #[.none, .none] } = h4
 have z1 : h1.objs.size = s.heap.objs.size + 1 := by rw [<- e1]; exact Heap.size_push ..
 have z2 : h2.objs.size = s.heap.objs.size + 2 := by rw [<- e2, Heap.size_push, z1]
 have z3 : h3.objs.size = s.heap.objs.size + 3 := by rw [<- e3, Heap.size_push, z2]
 have z4 : h4.objs.size = s.heap.objs.size + 4 := by rw [<- e4, Heap.size_push, z3]
 have k1 : ∀ c o, s.heap.get? c = some o -> h1.get? c = some o := fun c o x => by rw [<- e1]; exact Heap.get?_push_of_some _ x
 have k2 : ∀ c o, h1.get? c = some o -> h2.get? c = some o := fun c o x => by rw [<- e2]; exact Heap.get?_push_of_some _ x
 have k3 : ∀ c o, h2.get? c = some o -> h3.get? c = some o := fun c o x => by rw [<- e3]; exact Heap.get?_push_of_some _ x
 have k4 : ∀ c o, h3.get? c = some o -> h4.get? c = some o := fun c o x => by rw [<- e4]; exact Heap.get?_push_of_some _ x
 have g1 : h1.get? s.heap.objs.size = some (wK b1 l1) := by rw [<- e1]; exact Heap.get?_push_size _ rfl
 have g2 : h2.get? h1.objs.size = some (wK b2 l2) := by rw [<- e2]; exact Heap.get?_push_size _ rfl
 have g3 : IsPair h3 h2.objs.size (.ref s.heap.objs.size) (.ref h1.objs.size) := by show h3.get? h2.objs.size = _; rw [<- e3]; exact Heap.get?_push_size _ rfl
 have g4 : IsPair h4 h3.objs.size .none .none := by show h4.get? h3.objs.size = _; rw [<- e4]; exact Heap.get?_push_size _ rfl
 show _ /\ _
 rw [z2, z3, z4]
 rw [z1] at g2
 rw [z1, z2] at g3
 rw [z3] at g4
 have g5 : IsZip (h4.push { cls := .type "zip", data := .fields #[.none, .bool false, .bool false, .ref (s.heap.objs.size + 2), .ref (s.heap.objs.size + 3)] }) (s.heap.objs.size + 4) (s.heap.objs.size + 2) (s.heap.objs.size + 3) .none := by
  have := Heap.get?_push_size h4 (o := { cls := .type "zip", data := .fields #[.none, .bool false, .bool false, .ref (s.heap.objs.size + 2), .ref (s.heap.objs.size + 3)] }) rfl
  rw [z4] at this; exact this
 exact ⟨⟨_, g5, rfl⟩, h _ g5 (Heap.get?_push_of_some _ (k4 _ _ g3)) (Heap.get?_push_of_some _ g4) (Heap.get?_push_of_some _ (k4 _ _ (k3 _ _ (k2 _ _ g1)))) (Heap.get?_push_of_some _ (k4 _ _ (k3 _ _ g2))) fun c o x => Heap.get?_push_of_some _ (k4 _ _ (k3 _ _ (k2 _ _ (k1 _ _ x))))⟩
theorem WX {e it : Addr} {i : Int} {old : Value} {Q : Value -> Shared -> Prop} (he : IsEnum s.heap e it i old) (h : Q (.ref e) s) : wpAny (model prog w) A (pyIter (.ref e)) Q E s := by
 have hT : s.TypeIs (.ref e) "enumerate" := ⟨_, he, rfl⟩
 refine wpAny_pyIter_slot hT F.slot_enumerate_iter (wpAny_call_entry F.slot_enumerate_iter hT F.entry_enumerate_iter ?_ (F.args_enumerate_iter_1 _))
 show wpAny _ _ (ret (.ref e)) _ _ s
 exact wpAny_pure ⟨_, rfl, "enumerate", _, hT, F.slot_enumerate_next.lookup, h⟩
end
theorem Z3 {K : W.Frag} {Hf : Hp} {a : Addr} {xs : List V} {ds : List D} (qa : SqL K Hf a xs) (la : ya K Hf ds xs) : Walks K Hf (Itl K a) ds := fun H2 Hf2 t2 sf2 i => by
 refine ⟨fun d hd => ?_, fun hle => ⟨xs, sf2.seq (t2.seq qa), by rw [la.length]; exact hle⟩⟩
 obtain ⟨v, e3, e4⟩ := la.get hd
 have sq : SqL K H2 a xs := sf2.seq (t2.seq qa)
 refine ⟨⟨xs, v, sq, e3⟩, fun x H3 hy => ?_⟩
 obtain ⟨rfl, hy⟩ := hy
 have := hy xs sq
 rw [e3] at this
 cases this
 exact ⟨Hf2, Grows.refl sf2, e4.mono t2⟩
theorem Xt {K : W.Frag} {Hf : Hp} {a : Addr} {xs : List V} {ds : List D} (qa : SqT K Hf a xs) (la : ya K Hf ds xs) : Walks K Hf (Itt K a) ds := fun H2 Hf2 t2 sf2 i => by
 refine ⟨fun d hd => ?_, fun hle => ⟨xs, uT sf2 (uT t2 qa), by rw [la.length]; exact hle⟩⟩
 obtain ⟨v, e3, e4⟩ := la.get hd
 have sq : SqT K H2 a xs := uT sf2 (uT t2 qa)
 refine ⟨⟨xs, v, sq, e3⟩, fun x H3 hy => ?_⟩
 obtain ⟨rfl, hy⟩ := hy
 have := hy xs sq
 rw [e3] at this
 cases this
 exact ⟨Hf2, Grows.refl sf2, e4.mono t2⟩
theorem Grows.lay {H Hf : Hp} {p : Addr} {o : HO} (s : yo Hf H) (hp : H p = none) : Grows H Hf (upd H p o) (upd Hf p o) := by
 have hfp : Hf p = none := s.free hp
 refine ⟨zM hp, zM hfp, fun b u e => ?_, fun b u e => ?_⟩
 ·by_cases hb : b = p
  ·subst hb; rw [zz] at e ⊢; exact e
  ·rw [zE hb] at e ⊢; exact s b u e
 ·by_cases hb : b = p
  ·subst hb; exact .inr (.inl hp)
  ·rw [zE hb] at e; exact .inl e
def wR (ds : List D) : List D := ds.zipIdx.map fun p => .tup [.int (p.2 : Int), p.1]
theorem Wg {ds : List D} {i : Nat} {d : D} (h : (wR ds)[i]? = some d) : ∃ x, ds[i]? = some x /\ d = .tup [.int i, x] := by
 unfold wR at h
 rw [g0w, List.getElem?_zipIdx] at h
 cases e : ds[i]? with
 | none => rw [e] at h; cases h
 | some x => rw [e] at h; simp at h; exact ⟨x, rfl, h.symm⟩
theorem Wf (ds : List D) : (wR ds).length = ds.length := by simp [wR]
theorem Uw {K : W.Frag} {Hf : Hp} {J : It} {ds : List D} (wk : Walks K Hf J ds) : Walks K Hf (ItE J) (wR ds) := fun H2 Hf2 t2 sf2 i => by
 obtain ⟨w1, w2⟩ := wk H2 Hf2 t2 sf2 i
 refine ⟨fun d hd => ?_, fun hle => w2 (by rw [Wf] at hle; exact hle)⟩
 obtain ⟨x, hx, rfl⟩ := Wg hd
 obtain ⟨go, yl⟩ := w1 x hx
 refine ⟨go, fun v H3 hy => ?_⟩
 obtain ⟨y, H1, p, hy, hp, rfl, rfl⟩ := hy
 obtain ⟨Hf1, gr, hh⟩ := yl y H1 hy
 have g2 := Grows.lay (o := .tup [.int i, y]) gr.fh hp
 exact ⟨_, gr.trans g2, Has.tup_iff.mpr ⟨p, _, rfl, SqT.of zz, .cons (Has.int_iff.mpr rfl) (.cons (hh.mono g2.f) .nil)⟩⟩
def Qp (xs ys : List D) : List D := (xs.zip ys).map fun p => .tup [p.1, p.2]
theorem VE {xs ys : List D} {i : Nat} {d : D} (h : (Qp xs ys)[i]? = some d) : ∃ x y, xs[i]? = some x /\ ys[i]? = some y /\ d = .tup [x, y] := by
 unfold Qp at h
 rw [g0w] at h
 cases e : (xs.zip ys)[i]? with
 | none => rw [e] at h; cases h
 | some p =>
  rw [e] at h
  simp at h
  obtain ⟨h1, h2⟩ := List.getElem?_zip_eq_some.mp e
  exact ⟨p.1, p.2, h1, h2, h.symm⟩
theorem kW (xs ys : List D) : (Qp xs ys).length = min xs.length ys.length := by simp [Qp]
theorem Qz {K : W.Frag} {Hf : Hp} {J1 J2 : It} {xs ys : List D} (hq : ∀ i H x H', J1.yld i H x H' -> H' = H) (w1 : Walks K Hf J1 xs) (w2 : Walks K Hf J2 ys) : Walks K Hf (ItZ J1 J2) (Qp xs ys) := fun H2 Hf2 t2 sf2 i => by
 obtain ⟨a1, a2⟩ := w1 H2 Hf2 t2 sf2 i
 obtain ⟨b1, b2⟩ := w2 H2 Hf2 t2 sf2 i
 refine ⟨fun d hd => ?_, fun hle => ?_⟩
 ·obtain ⟨x, y, hx, hy, rfl⟩ := VE hd
  obtain ⟨go1, yl1⟩ := a1 x hx
  obtain ⟨go2, yl2⟩ := b1 y hy
  refine ⟨⟨go1, fun v H1 q => by rw [hq _ _ _ _ q]; exact go2⟩, fun v H3 q => ?_⟩
  obtain ⟨y1, y2, H1, H2', p, q1, q2, hp, rfl, rfl⟩ := q
  have e1 := hq _ _ _ _ q1
  subst e1
  obtain ⟨Hf1, gr1, h1⟩ := yl1 y1 _ q1
  obtain ⟨Hf3, gr3, h3⟩ := (w2 H1 Hf1 (t2.trans gr1.f) gr1.fh i).1 y hy |>.2 y2 _ q2
  have g2 := Grows.lay (o := .tup [y1, y2]) gr3.fh hp
  exact ⟨_, (gr1.trans gr3).trans g2, Has.tup_iff.mpr ⟨p, _, rfl, SqT.of zz, .cons ((h1.mono gr3.f).mono g2.f) (.cons (h3.mono g2.f) .nil)⟩⟩
 ·rw [kW] at hle
  by_cases h : xs.length <= i
  ·exact .inl (a2 h)
  ·have hx : xs[i]? = some xs[i] := g0z (by omega)
   exact .inr ⟨(a1 _ hx).1, fun v H1 q => ⟨hq _ _ _ _ q, b2 (by omega)⟩⟩
section
variable {X : Cx} {e e1 e2 : Expr} {f f1 f2 : FE} {pos : Pos} {elts : List Expr} {kx : Nat} {tp : Pos}
theorem Wa {pins : List (Addr × Obj)} {σ : St} {H : Hp} {s : Shared} (I : Inv X pins σ H s) {b : Addr} (hb : s.heap.objs.size <= b) : q9 X pins H b := I.fpOk hb (I.hok.fresh hb)
def YE : D -> Option (List D)
 | .lst ds => some ds
 | .tup ds => some ds
 | _ => none
def yc (f : FE) : FA := fun ρ => (f ρ).bind YE
def qd (f : FE) : FA := fun ρ => (yc f ρ).bind fun ds => some (wR ds)
def Ub (f g : FE) : FA := fun ρ => (yc f ρ).bind fun xs => (yc g ρ).bind fun ys => some (Qp xs ys)
theorem QL {pins : List (Addr × Obj)} {σ : St} {H Hf : Hp} {s : Shared} {d : D} {ds : List D} {v : V} {u : Value} (I : Inv X pins σ H s) (sf : yo Hf H) (h : Has X.K Hf d v) (hd : YE d = some ds) (r : xU v u) :
  ∃ (b : Bool) (a : Addr) (its : Array Value) (J : It), u = .ref a /\ SqH b s.heap a its /\ Walks X.K Hf J ds /\ (∀ i H x H', J.yld i H x H' -> H' = H) ∧
   ∀ it, ∃ tn : Nat -> Heap -> Prop, Draw X.prog X.w X.K J [it] it tn /\ ∀ h : Heap, h.get? it = some (wK b a) -> tn 0 h := by
 cases d with
 | lst ds' =>
  cases hd
  obtain ⟨a, xs, rfl, qa, la⟩ := Has.lst_iff.mp h
  cases r
  obtain ⟨its, _, p, _⟩ := I.list (sf.seq qa)
  exact ⟨true, a, _, _, rfl, p.isList, Z3 qa la, fun _ _ _ _ q => q.1, fun it => ⟨_, Kf a it, fun h e => ⟨_, e, rfl, rfl⟩⟩⟩
 | tup ds' =>
  cases hd
  obtain ⟨a, xs, rfl, qa, la⟩ := Has.tup_iff.mp h
  cases r
  obtain ⟨its, _, p, _⟩ := I.tuple (uT sf qa)
  exact ⟨false, a, _, _, rfl, p, Xt qa la, fun _ _ _ _ q => q.1, fun it => ⟨_, Qf a it, fun h e => ⟨_, e, rfl, rfl⟩⟩⟩
 | _ => cases hd
theorem ZD {p : Pos} (hg : Gl X "enumerate") (hm : X.mg "enumerate" = none) (he : DE X e f) (hs : starEach [e] X.env = [(false, eval e X.env)] := by rfl) : DI X (.Tuple elts kx tp) (.Call (.Name "enumerate" p) [e] [] pos) (qd f) := by
 intro pins s σ H R I h
 obtain ⟨H₀, Hf₀, ρ, Hf, ds', R0, q, k⟩ := h
 obtain ⟨ds, q1, q2⟩ := yZ q
 cases q2
 obtain ⟨d, q3, q4⟩ := z8 q1
 refine Call_ (qc I hg hm boot_enumerate (PyProof.Rows.callWith_type1 (thn ((z5 he xp hs) pos pins s σ H (fun vs H1 => ∃ v Hf1, vs = [v] /\ Rep X.K H₀ Hf₀ σ ρ H1 Hf1 /\ yo H H1 /\ yo Hf Hf1 /\ Has X.K Hf1 d v) I ⟨H₀, Hf₀, ρ, Hf, d, R0, q3, fun v H1 Hf1 R1 s1 t1 h1 => ⟨v, Hf1, rfl, R1, s1, t1, h1⟩⟩) fun us s1 ⟨vs, H1, I1, r1, q1⟩ => ?_) hs rfl))
 obtain ⟨v, Hf1, rfl, R1, s1', t1, h1⟩ := q1
 cases r1 with
 | cons r rr =>
  cases rr
  obtain ⟨b, a, its, J, rfl, sq, wk, _, dr⟩ := QL I1 R1.sf h1 q4 r
  refine Kp sq fun h' he' hi' hk => ?_
  have I2 : Inv X pins σ H1 { s1 with heap := h' } := I1.kept (t' := s1.toks) hk
  obtain ⟨tn, D, st⟩ := dr s1.heap.objs.size
  refine WX he' ⟨s1.heap.objs.size + 1, [s1.heap.objs.size + 1, s1.heap.objs.size], _, _, H1, rfl, I2, QE (elts := elts) (kx := kx) (tp := tp) (e := s1.heap.objs.size + 1) D (fun b hb => by
   have e : b = s1.heap.objs.size := by simpa using hb
   rw [e]; exact g1g (g2q _)), ⟨st _ hi', _, he'⟩, fun b hb => ?_, k _ _ _ R1 s1' t1 (Uw wk)⟩
  rcases g0q.mp hb with rfl | hb
  ·exact Wa I1 (Nat.le_succ _)
  ·have e : b = s1.heap.objs.size := by simpa using hb
   rw [e]; exact Wa I1 (g0r _)
theorem D8 {p : Pos} (hg : Gl X "zip") (hm : X.mg "zip" = none) (h1 : DE X e1 f1) (h2 : DE X e2 f2) (hs : starEach [e1, e2] X.env = [(false, eval e1 X.env), (false, eval e2 X.env)] := by rfl) (hs2 : starEach [e2] X.env = [(false, eval e2 X.env)] := by rfl) :
  DI X (.Tuple elts kx tp) (.Call (.Name "zip" p) [e1, e2] [] pos) (Ub f1 f2) := by
 intro pins s σ H R I h
 obtain ⟨H₀, Hf₀, ρ, Hf, ds', R0, q, k⟩ := h
 obtain ⟨xs, q1, q2⟩ := yZ q
 obtain ⟨ys, q5, q6⟩ := yZ q2
 cases q6
 obtain ⟨d1, q3, q4⟩ := z8 q1
 obtain ⟨d2, q7, q8⟩ := z8 q5
 refine Call_ (qc I hg hm boot_zip (PyProof.Rows.callWith_type1 (thn ((z5 h1 (z5 h2 xp hs2) (by rw [hs, hs2])) pos pins s σ H (fun vs H1 => ∃ v v' Hf1, vs = [v, v'] /\ Rep X.K H₀ Hf₀ σ ρ H1 Hf1 /\ yo H H1 /\ yo Hf Hf1 /\ Has X.K Hf1 d1 v /\ Has X.K Hf1 d2 v') I
  ⟨H₀, Hf₀, ρ, Hf, d1, R0, q3, fun v H1 Hf1 R1 s1 t1 h1 => ⟨H₀, Hf₀, ρ, Hf1, d2, R1, q7, fun v' H2 Hf2 R2 s2 t2 h2 => ⟨v, v', Hf2, rfl, R2, s1.trans s2, t1.trans t2, h1.mono t2, h2⟩⟩⟩) fun us s1 ⟨vs, H1, I1, r1, q1⟩ => ?_) (by rw [hs, hs2]) (by rw [hs2]; rfl)))
 obtain ⟨v, v', Hf1, rfl, R1, s1', t1, hv, hv'⟩ := q1
 cases r1 with
 | cons r rr =>
  cases rr with
  | cons r' rr =>
   cases rr
   obtain ⟨b, a, its, J, rfl, sq, wk, hq, dr⟩ := QL I1 R1.sf hv q4 r
   obtain ⟨b', a', its', J', rfl, sq', wk', hq', dr'⟩ := QL I1 R1.sf hv' q8 r'
   refine G3 sq sq' fun h' hz hTI hTO hi hi' hk => ?_
   have I2 : Inv X pins σ H1 { s1 with heap := h' } := I1.kept (t' := s1.toks) hk
   obtain ⟨tn, D, st⟩ := dr s1.heap.objs.size
   obtain ⟨tn', D', st'⟩ := dr' (s1.heap.objs.size + 1)
   have mem : ∀ b : Addr, b ∈ [s1.heap.objs.size] ++ [s1.heap.objs.size + 1] -> b = s1.heap.objs.size \/ b = s1.heap.objs.size + 1 := fun b hb => by simpa using hb
   have Z : ZApart (s1.heap.objs.size + 4) (s1.heap.objs.size + 2) (s1.heap.objs.size + 3) [s1.heap.objs.size] [s1.heap.objs.size + 1] :=
    ⟨by show (_ : Nat) ≠ _; omega, by show (_ : Nat) ≠ _; omega, by show (_ : Nat) ≠ _; omega, fun b hb => by rcases mem b hb with e | e <;> (rw [e]; show (_ : Nat) ≠ _; omega), fun b hb => by rcases mem b hb with e | e <;> (rw [e]; show (_ : Nat) ≠ _; omega),
     fun b hb => by rcases mem b hb with e | e <;> (rw [e]; show (_ : Nat) ≠ _; omega), fun b hb hb' => by
      have e1 : b = s1.heap.objs.size := by simpa using hb
      have e2 : b = s1.heap.objs.size + 1 := by simpa using hb'
      rw [e1] at e2
      exact absurd e2 (g1g (g2q _))⟩
   refine wpAny_pyIter_zip hz ⟨_, _, _, _, H1, rfl, I2, KH (elts := elts) (kx := kx) (tp := tp) D D' Z, ⟨st _ hi, st' _ hi', hz, hTI, _, _, hTO⟩, fun b hb => ?_, k _ _ _ R1 s1' t1 (Qz hq wk wk')⟩
   have hle : s1.heap.objs.size <= b := by
    have : b = s1.heap.objs.size + 4 \/ b = s1.heap.objs.size + 2 \/ b = s1.heap.objs.size + 3 \/ b = s1.heap.objs.size \/ b = s1.heap.objs.size + 1 := by simpa using hb
    rcases this with e | e | e | e | e <;> (rw [e]; show (_ : Nat) <= _; omega)
   exact Wa I1 hle
end
section
variable {prog : Program} {w : World} {A : Around} {E : Value -> Shared -> Prop} {s : Shared}
theorem jV {t sl : Addr} {items : Array Value} {vl vu : Value} {lo hi : Option Int} {Q : Value -> Shared -> Prop} (ht : IsTup s.heap t items) (hs : s.heap.IsSliceOf sl vl vu .none) (pl : IsPart vl lo) (pu : IsPart vu hi)
  (hw : HT.sIx items.size 0 lo = 0 /\ HT.sIx items.size items.size hi = items.size) (h : Q (.ref t) s) : wpAny (model prog w) A (getItem (.ref t) (.ref sl)) Q E s := by
 obtain ⟨os, hos, hcs, hds⟩ := id hs
 have hTs : s.TypeIs (.ref sl) "slice" := ⟨os, hos, hcs⟩
 unfold getItem
 try with_reducible refine wpAny_holding ?_
 first | refine wpAny_bind (wpAny_pure ?_) | skip
 refine wpAny_bind (wpAny_sequenceKey ht.typeIs (by decide) ?_)
 refine wpAny_bind (wpAny_callSpecial?_slot (name := Str.ofString "__getitem__") ht.typeIs PyProof.Rows.slot_tuple_getitem
  (wpAny_call_entry PyProof.Rows.slot_tuple_getitem ht.typeIs entry_tuple_getitem ?_ (args_tuple_getitem _ _)))
 show wpAny _ _ (Builtin.Tuple.tupleItemsOf (.ref t) >>= _) _ _ s
 refine wpAny_bind (tupleItemsOf_ ht ?_)
 refine wpAny_bind (wpAny_typeOf hTs ?_)
 rw [if_pos (by decide)]
 refine wpAny_bind (HT.sliceApplied_gen hs pl pu ?_)
 rw [hw.1, hw.2]
 show wpAny _ _ (if (((0 : Nat) : Int) == 0 && (1 : Int) == 1 && (items.size - 0) == items.size) = true then _ else _) _ _ s
 rw [if_pos (by simp)]
 show wpAny _ _ (Builtin.Tuple.tupleIsExact (.ref t) >>= _) _ _ s
 unfold Builtin.Tuple.tupleIsExact
 refine wpAny_bind (wpAny_bind (wpAny_typeOf ht.typeIs (wpAny_pure ?_)))
 rw [if_pos (by decide)]
 refine wpAny_bind (wpAny_rule ?_)
 exact wpAny_pure ⟨_, rfl, wpAny_pure h⟩
theorem Ql (n : Nat) : Builtin.Slice.sliceAdjust none none (-1) (n : Int) = ((n : Int) - 1, -1) := by
 unfold Builtin.Slice.sliceAdjust
 simp
theorem UN (n : Nat) : Builtin.Slice.slicePlaces ((n : Int) - 1) (-1) (-1) = n := by
 unfold Builtin.Slice.slicePlaces
 have h1 : ¬ ((-1 : Int) > 0) := by omega
 simp only [h1, if_false]
 split <;> simp <;> omega
theorem kB {sl : Addr} {t : Tok} {n : Nat} {Q : Int × Int × Nat -> Shared -> Prop} (hs : s.heap.IsSliceOf sl .none .none (.int (-1) t)) (h : Q ((n : Int) - 1, -1, n) s) : wpAny (model prog w) A (Builtin.Slice.sliceApplied (.ref sl) (pure (n : Int))) Q E s := by
 obtain ⟨os, hos, hcs, hds⟩ := id hs
 unfold Builtin.Slice.sliceApplied Builtin.Slice.sliceFields
 refine wpAny_bind (wpAny_bind (wpAny_field hos hds (x := .none) rfl (wpAny_bind (wpAny_field hos hds (x := .none) rfl (wpAny_bind (wpAny_field hos hds (x := .int (-1) t) rfl (wpAny_pure ?_)))))))
 refine wpAny_bind (slicePart_int ?_)
 show wpAny _ _ (if ((-1 : Int) == 0) = true then _ else _) _ _ s
 rw [if_neg (by decide)]
 refine wpAny_bind (slicePart_none (wpAny_bind (slicePart_none (wpAny_bind (wpAny_pure ?_)))))
 show wpAny _ _ (match Builtin.Slice.sliceAdjust none none (-1) (n : Int) with | (lo, hi) => pure (lo, (-1 : Int), Builtin.Slice.slicePlaces lo hi (-1))) _ _ s
 rw [Ql n]
 show wpAny _ _ (pure ((n : Int) - 1, (-1 : Int), Builtin.Slice.slicePlaces ((n : Int) - 1) (-1) (-1))) _ _ s
 rw [UN]
 exact wpAny_pure h
theorem VW (xs : Array Value) : ((g1e xs.size).filterMap fun (m : Nat) => xs[(((xs.size : Nat) : Int) - 1 + (m : Int) * (-1)).toNat]?).toArray = xs.toList.reverse.toArray := by
 have e : ((g1e xs.size).filterMap fun (m : Nat) => xs[(((xs.size : Nat) : Int) - 1 + (m : Int) * (-1)).toNat]?) = xs.toList.reverse := by
  apply g2o
  intro i
  have f : (g1e xs.size).filterMap (fun (m : Nat) => xs[(((xs.size : Nat) : Int) - 1 + (m : Int) * (-1)).toNat]?) = (g1e xs.size).map (fun (m : Nat) => xs.toList.reverse.getD m .none) := by
   have gen : ∀ l : List Nat, (∀ m ∈ l, m < xs.size) -> l.filterMap (fun (m : Nat) => xs[(((xs.size : Nat) : Int) - 1 + (m : Int) * (-1)).toNat]?) = l.map (fun (m : Nat) => xs.toList.reverse.getD m .none) := by
    intro l
    induction l with
    | nil => intro _; rfl
    | cons m l ih =>
     intro hl
     have hm' : m < xs.size := hl m g0s
     have : (((xs.size : Nat) : Int) - 1 + (m : Int) * (-1)).toNat = xs.size - 1 - m := by omega
     have h2 : xs.size - 1 - m < xs.size := by omega
     rw [g3b, this, Array.getElem?_eq_getElem h2, g0f, ih fun k hk => hl k (g0m _ hk)]
     simp [g0k, g2u, hm']
   exact gen _ fun m hm => by simpa using hm
  rw [f, g0w]
  by_cases hi : i < xs.size
  ·rw [List.getElem?_range hi]
   simp [g0k, g2u, hi]
  ·rw [g1d (by simpa using hi), g1d (by simp; omega)]
   rfl
 rw [e]
theorem jU {t sl : Addr} {tk : Tok} {items : Array Value} {Q : Value -> Shared -> Prop} (ht : IsTup s.heap t items) (hs : s.heap.IsSliceOf sl .none .none (.int (-1) tk))
  (h : Q (.ref s.heap.objs.size) { s with heap := s.heap.push { cls := .type "tuple", data := .seq items.toList.reverse.toArray } }) (hsz : items.size <= sizeLine) : wpAny (model prog w) A (getItem (.ref t) (.ref sl)) Q E s := by
 have hrev : sizeOk (.seq items.toList.reverse.toArray) := by
  show items.toList.reverse.toArray.size <= sizeLine
  simpa using hsz
 obtain ⟨os, hos, hcs, hds⟩ := id hs
 have hTs : s.TypeIs (.ref sl) "slice" := ⟨os, hos, hcs⟩
 unfold getItem
 try with_reducible refine wpAny_holding ?_
 first | refine wpAny_bind (wpAny_pure ?_) | skip
 refine wpAny_bind (wpAny_sequenceKey ht.typeIs (by decide) ?_)
 refine wpAny_bind (wpAny_callSpecial?_slot (name := Str.ofString "__getitem__") ht.typeIs PyProof.Rows.slot_tuple_getitem
  (wpAny_call_entry PyProof.Rows.slot_tuple_getitem ht.typeIs entry_tuple_getitem ?_ (args_tuple_getitem _ _)))
 show wpAny _ _ (Builtin.Tuple.tupleItemsOf (.ref t) >>= _) _ _ s
 refine wpAny_bind (tupleItemsOf_ ht ?_)
 refine wpAny_bind (wpAny_typeOf hTs ?_)
 rw [if_pos (by decide)]
 refine wpAny_bind (kB hs ?_)
 show wpAny _ _ (if ((((items.size : Nat) : Int) - 1) == 0 && (-1 : Int) == 1 && items.size == items.size) = true then _ else _) _ _ s
 rw [if_neg (by simp), VW]
 first
  | exact wpAny_bind (m := Builtin.Tuple.tupleExact _) (wpAny_newObj_type (wpAny_pure ⟨_, rfl, wpAny_pure h⟩) hrev)
  | exact wpAny_bind (m := Builtin.Tuple.tupleExact _) (wpAny_newObj_type (wpAny_bind (wpAny_pure (wpAny_pure ⟨_, rfl, wpAny_pure h⟩))) hrev)
  | exact wpAny_bind (wpAny_bind (m := Builtin.Tuple.tupleExact _) (wpAny_newObj_type (wpAny_pure (wpAny_pure ⟨_, rfl, wpAny_pure h⟩)) hrev))
  | exact wpAny_bind (wpAny_bind (m := Builtin.Tuple.tupleExact _) (wpAny_newObj_type (wpAny_pure ⟨_, rfl, wpAny_pure h⟩) hrev))
open PySem.AutoSeq1 (wpAny_loadPart') in
theorem WM (l b : Addr) (items2 : Array Value) (n n2 : Nat) (dd dd2 : Option Addr) (sl sl2 : Array (Option Value)) :
  Meets (Builtin.«tuple.__add__» ⟨[.ref l, .ref b], []⟩) (fun _ R s => s.heap.get? l = some { cls := .type "tuple", dict := dd, data := .seq #[] n, slots := sl } /\ s.heap.get? b = some { cls := .type "tuple", dict := dd2, data := .seq items2 n2, slots := sl2 } /\ R (.ok (.ret (.ref b))) s) :=
 .of_wp fun prog w A R s h => by
  obtain ⟨hp, g, d, tk, os⟩ := s; obtain ⟨hl, hb, h⟩ := h
  have f2 := AutoSeq1.sub_tuple_tuple
  wp_walk using wpAny_loadPart' hl, wpAny_loadPart' hb
  exact ⟨_, rfl, h⟩
theorem G0 {t b : Addr} {ws : List Value} {Q : Value -> Shared -> Prop} (ht : IsTup s.heap t #[]) (hb : IsTup s.heap b ws.toArray) (h : Q (.ref b) s) : wpAny (model prog w) A (binaryOp .Add (.ref t) (.ref b)) Q E s := by
 obtain ⟨⟨cls, dd, data, sl⟩, ho, hc, n, hd⟩ := id ht
 obtain ⟨⟨cls2, dd2, data2, sl2⟩, ho2, hc2, n2, hd2⟩ := id hb
 simp only at hc hd hc2 hd2
 subst hc hd hc2 hd2
 exact concat_meets ⟨_, ho, rfl⟩ ⟨_, ho2, rfl⟩ noFill_tuple_add seq_tuple_add PySem.F.slot_tuple_add PySem.F.entry_tuple_add (PySem.F.args_tuple_add_2 _ _) (WM t b ws.toArray n n2 dd dd2 sl sl2) ⟨ho, ho2, h⟩
end
section
variable {X : Cx}
def Hb (K : W.Frag) : R2 := fun x y H Q => ∃ a b xs ys, x = .ref a /\ y = .ref b /\ SqT K H a xs /\ SqT K H b ys /\ xs.length + ys.length <= sizeLine ∧
 (xs = [] -> Q (.ref b) H) /\ (xs ≠ [] -> ys = [] -> Q (.ref a) H) /\ (xs ≠ [] -> ys ≠ [] -> ∀ p, H p = none -> Q (.ref p) (upd H p (.tup (xs ++ ys))))
theorem Ga : OpR X (binaryOp .Add) (Hb X.K) := by
 intro pins s σ H x y v u Q I rx ry h
 obtain ⟨a, b, xs, ys, rfl, rfl, ha, hb, hz, q0, q1, q2⟩ := h
 by_cases hx : xs = []
 ·subst hx
  cases rx
  cases ry
  obtain ⟨its, r1, p1, _⟩ := I.tuple ha
  obtain ⟨its2, r2, p2, _⟩ := I.tuple hb
  cases r1
  exact G0 p1 p2 ⟨.ref b, H, I, rfl, q0 rfl⟩
 ·exact Bq pins s σ H _ _ v u Q I rx ry ⟨a, b, xs, ys, rfl, rfl, ha, hb, hx, hz, q1 hx, q2 hx⟩
def Hc (K : W.Frag) : R2 := fun x y H Q => ∃ a b xs ys, x = .ref a /\ y = .ref b /\ SqL K H a xs /\ SqL K H b ys /\ xs.length + ys.length <= sizeLine /\ ∀ p, H p = none -> Q (.ref p) (upd H p (.lst (xs ++ ys)))
theorem Gb : OpR X (binaryOp .Add) (Hc X.K) := by
 intro pins s σ H x y v u Q I rx ry h
 obtain ⟨a, b, xs, ys, rfl, rfl, ha, hb, hz, q⟩ := h
 cases rx
 cases ry
 obtain ⟨its, r1, p1, _⟩ := I.list ha
 obtain ⟨its2, r2, p2, _⟩ := I.list hb
 obtain ⟨⟨cls, dd, data, sl⟩, ho, hc, n, hd⟩ := id p1.isList
 obtain ⟨⟨cls2, dd2, data2, sl2⟩, ho2, hc2, n2, hd2⟩ := id p2.isList
 simp only at hc hd hc2 hd2
 subst hc hd hc2 hd2
 have e : its.toArray ++ its2.toArray = (its ++ its2).toArray := by simp
 have hsz : its.toArray.size + its2.toArray.size <= sizeLine := by
  rw [g0u, g0u, <- r1.length, <- r2.length]; exact hz
 refine concat_meets ⟨_, ho, rfl⟩ ⟨_, ho2, rfl⟩ noFill_list_add seq_list_add PySem.F.slot_list_add PySem.F.entry_list_add (PySem.F.args_list_add_2 _ _) (list_addW a b its.toArray its2.toArray n n2 dd dd2 sl sl2 hsz) ⟨ho, ho2, ?_⟩
 rw [e]
 exact ⟨.ref _, _, I.lnew (t' := s.toks) (r1.append r2) (by rw [g0i]; exact hz), rfl, q _ I.fresh⟩
def C4 (K : W.Frag) : R2 := fun x y H Q => rI0 (fun i j => .int (i + j)) x y H Q \/ (∃ i j, x = .str i /\ y = .str j /\ i.length + j.length <= sizeLine /\ Q (.str (i ++ j)) H) \/ Hb K x y H Q \/ Hc K x y H Q
theorem Bt : OpR X (binaryOp .Add) (C4 X.K) := Dm.or (US.or (Ga.or Gb))
def yV : D -> D -> Option D
 | .int i, .int j => some (.int (i + j))
 | .str x, .str y => if x.length + y.length <= sizeLine then some (.str (x ++ y)) else none
 | .tup xs, .tup ys => if xs.length + ys.length <= sizeLine then some (.tup (xs ++ ys)) else none
 | .lst xs, .lst ys => if xs.length + ys.length <= sizeLine then some (.lst (xs ++ ys)) else none
 | _, _ => none
theorem ya.nil_of {K : W.Frag} {H : Hp} {ds : List D} {xs : List V} (h : ya K H ds xs) : xs = [] ↔ ds = [] := by
 have := h.length
 constructor
 ·intro e; subst e; exact g2r this.symm
 ·intro e; subst e; exact g2r this
theorem j6.tupF {K : W.Frag} {Hf : Hp} {σ : St} {ρ : Rho} {ds : List D} {v : V} (h : j6 K Hf σ ρ (.tup ds) v) : Has K Hf (.tup ds) v := by
 rcases h with h | ⟨_, _, e, _⟩
 ·exact h
 ·cases e
theorem Gf : OpD X (C4 X.K) yV := by
 intro σ ρ H₀ Hf₀ H Hf x y dx dy d Q R hx hy hφ k
 unfold yV at hφ
 split at hφ
 ·cases hφ
  exact .inl ⟨_, _, hx.int, hy.int, k _ _ _ R zB zB (Has.int_iff.mpr rfl)⟩
 ·split at hφ
  ·cases hφ
   exact .inr (.inl ⟨_, _, hx.str, hy.str, by assumption, k _ _ _ R zB zB (Has.str_iff.mpr rfl)⟩)
  ·cases hφ
 ·split at hφ
  ·cases hφ
   rename_i xs ys hz
   obtain ⟨a, vs, rfl, qa, la⟩ := hx.tup R
   obtain ⟨b, ws, rfl, qb, lb⟩ := hy.tup R
   refine .inr (.inr (.inl ⟨a, b, vs, ws, rfl, rfl, qa, qb, by rw [la.length, lb.length]; exact hz, fun e => ?_, fun _ e => ?_, fun _ _ p hp => ?_⟩))
   ·cases la.nil_of.mp e
    exact k _ _ _ R zB zB (by rw [g0n]; exact hy.tupF)
   ·cases lb.nil_of.mp e
    exact k _ _ _ R zB zB (by rw [g0t]; exact hx.tupF)
   ·have sm := zM (o := .tup (vs ++ ws)) (R.sf.free hp)
    exact k _ _ _ (R.lay hp) (zM hp) sm (Has.tup_iff.mpr ⟨p, _, rfl, SqT.of zz, (la.append lb).mono sm⟩)
  ·cases hφ
 ·split at hφ
  ·cases hφ
   rename_i xs ys hz
   obtain ⟨a, vs, rfl, qa, la⟩ := hx.lst R
   obtain ⟨b, ws, rfl, qb, lb⟩ := hy.lst R
   refine .inr (.inr (.inr ⟨a, b, vs, ws, rfl, rfl, qa, qb, by rw [la.length, lb.length]; exact hz, fun p hp => ?_⟩))
   have sm := zM (o := .lst (vs ++ ws)) (R.sf.free hp)
   exact k _ _ _ (R.lay hp) (zM hp) sm (Has.lst_iff.mpr ⟨p, _, rfl, SqL.of zz, (la.append lb).mono sm⟩)
  ·cases hφ
 ·cases hφ
variable {a b c e : Expr} {f g h : FE} {pos p2 : Pos}
theorem zV (ha : DR X a f) (hb : DR X b g) : DE X (.BinOp a .Add b pos) (zc yV f g) := Cd Bt Gf ha hb
abbrev FP := Rho -> Option (Option Int)
def noP : FP := fun _ => some none
def exP (f : FE) : FP := fun ρ => (f ρ).bind fun | .int i => some (some i) | _ => none
def tP (K : W.Frag) (f : FP) : TO := fun σ H Q => ∃ H₀ Hf₀ ρ Hf o, Rep K H₀ Hf₀ σ ρ H Hf /\ f ρ = some o /\ ∀ H' Hf', Rep K H₀ Hf₀ σ ρ H' Hf' -> yo H H' -> yo Hf Hf' -> Q o H'
def DP (X : Cx) (e : Option Expr) (f : FP) : Prop := PO X e (tP X.K f)
theorem Hj {e : Option Expr} {t t' : TO} (h : PO X e t) (i : ∀ σ H Q, t' σ H Q -> t σ H Q) : PO X e t' := fun pins s σ H Q I hw => h pins s σ H Q I (i _ _ _ hw)
theorem uU : DP X none noP := Hj Ja fun σ H Q ⟨H₀, Hf₀, ρ, Hf, d, R, q, k⟩ => by cases q; exact k _ _ R zB zB
theorem wM (h : DR X e f) : DP X (some e) (exP f) := Hj (Q9 h) fun σ H Q ⟨H₀, Hf₀, ρ, Hf, d, R, q, k⟩ => by
 obtain ⟨x, e1, e2⟩ := z8 q
 cases x <;> try cases e2
 exact ⟨H₀, Hf₀, ρ, Hf, _, R, e1, fun v H1 Hf1 R1 s1 t1 h1 => ⟨_, h1.int, k _ _ R1 s1 t1⟩⟩
def jC {α : Type} (xs : List α) (lo hi : Option Int) : List α := (xs.drop (HT.sIx xs.length 0 lo)).take (HT.sIx xs.length xs.length hi - HT.sIx xs.length 0 lo)
theorem ya.cut {K : W.Frag} {H : Hp} {ds : List D} {xs : List V} (h : ya K H ds xs) (lo hi : Option Int) : ya K H (jC ds lo hi) (Qi xs lo hi) := by
 unfold jC Qi
 rw [h.length]
 exact (h.drop _).take _
def C2 (K : W.Frag) : V -> Option Int -> Option Int -> Hp -> VK -> Prop := fun x lo hi H Q => ∃ a xs, x = .ref a /\ SqT K H a xs ∧
 ((HT.sIx xs.length 0 lo = 0 /\ HT.sIx xs.length xs.length hi = xs.length) -> Q (.ref a) H) /\ (¬ (HT.sIx xs.length 0 lo = 0 /\ HT.sIx xs.length xs.length hi = xs.length) -> ∀ p, H p = none -> Q (.ref p) (upd H p (.tup (Qi xs lo hi))))
theorem QP : SlR X (C2 X.K) := by
 intro pins s σ H x v vl vu lo hi sl Q I rx hs pl pu h
 obtain ⟨a, xs, rfl, hx, q1, q2⟩ := h
 by_cases hw : HT.sIx xs.length 0 lo = 0 /\ HT.sIx xs.length xs.length hi = xs.length
 ·cases rx
  obtain ⟨its, r, ht, hz⟩ := I.tuple hx
  have hlen : its.toArray.size = xs.length := by rw [g0u]; exact r.length.symm
  refine ⟨"tuple", _, PyProof.Rows.slot_tuple_getitem.lookup, ht.typeIs, ?_⟩
  exact jV ht hs pl pu (by rw [hlen]; exact hw) ⟨.ref a, H, I, rfl, q1 hw⟩
 ·exact CK pins s σ H _ v vl vu lo hi sl Q I rx hs pl pu ⟨a, xs, rfl, hx, hw, q2 hw⟩
def ym (f : FE) (l u : FP) : FE := fun ρ => (f ρ).bind fun x => (l ρ).bind fun lo => (u ρ).bind fun hi => match x with
 | .tup ds => some (.tup (jC ds lo hi))
 | .lst ds => some (.lst (jC ds lo hi))
 | _ => none
theorem Wk {ds : List D} {lo hi : Option Int} (h : HT.sIx ds.length 0 lo = 0 /\ HT.sIx ds.length ds.length hi = ds.length) : jC ds lo hi = ds := by
 unfold jC
 rw [h.1, h.2]
 simp
theorem yN {lo hi : Option Expr} {l u : FP} (he : DR X e f) (hl : DP X lo l) (hu : DP X hi u) : DE X (.Subscript e (.Slice lo hi none p2) pos) (ym f l u) :=
 yW (VY (QP.or HP) he hl hu) fun σ H Q ⟨H₀, Hf₀, ρ, Hf, d, R, q, k⟩ => by
  obtain ⟨x, e1, e2⟩ := z8 q
  cases e3 : l ρ with
  | none => rw [e3] at e2; cases e2
  | some lo =>
   rw [e3] at e2
   cases e4 : u ρ with
   | none => rw [e4] at e2; cases e2
   | some hi =>
    rw [e4] at e2
    simp only [g0a] at e2
    refine ⟨H₀, Hf₀, ρ, Hf, x, R, e1, fun v H1 Hf1 R1 s1 t1 h1 => ⟨H₀, Hf₀, ρ, Hf1, lo, R1, e3, fun H2 Hf2 R2 s2 t2 => ⟨H₀, Hf₀, ρ, Hf2, hi, R2, e4, fun H3 Hf3 R3 s3 t3 => ?_⟩⟩⟩
    have h3 := (h1.mono t2).mono t3
    have ss := (s1.trans s2).trans s3
    have tt := (t1.trans t2).trans t3
    split at e2
    ·cases e2
     obtain ⟨a, xs, rfl, qa, la⟩ := h3.tup R3
     refine .inl ⟨a, xs, rfl, qa, fun hw => ?_, fun hw p hp => ?_⟩
     ·rw [la.length] at hw
      exact k _ _ _ R3 ss tt (by rw [Wk hw]; exact h3.tupF)
     ·have sm := zM (o := .tup (Qi xs lo hi)) (R3.sf.free hp)
      exact k _ _ _ (R3.lay hp) (ss.trans (zM hp)) (tt.trans sm) (Has.tup_iff.mpr ⟨p, _, rfl, SqT.of zz, (la.cut lo hi).mono sm⟩)
    ·cases e2
     obtain ⟨a, xs, rfl, qa, la⟩ := h3.lst R3
     refine .inr ⟨a, xs, rfl, qa, fun p hp => ?_⟩
     have sm := zM (o := .lst (Qi xs lo hi)) (R3.sf.free hp)
     exact k _ _ _ (R3.lay hp) (ss.trans (zM hp)) (tt.trans sm) (Has.lst_iff.mpr ⟨p, _, rfl, SqL.of zz, (la.cut lo hi).mono sm⟩)
    ·cases e2
def Nx (K : W.Frag) : V -> Hp -> VK -> Prop := fun x H Q => ∃ a xs, x = .ref a /\ ((SqT K H a xs /\ ∀ p, H p = none -> Q (.ref p) (upd H p (.tup xs.reverse))) \/ (SqL K H a xs /\ ∀ p, H p = none -> Q (.ref p) (upd H p (.lst xs.reverse))))
theorem YB (its : List Value) : slicePick its.toArray none none (some (-1)) = its.reverse.toArray := by
 have := VW its.toArray
 have hb : sliceBounds none none (some (-1)) its.toArray.size = (((its.toArray.size : Nat) : Int) - 1, -1, -1) := by
  unfold sliceBounds
  simp
 unfold slicePick
 rw [hb]
 show ((sliceRange (((its.toArray.size : Nat) : Int) - 1) (-1) (-1)).filterMap (its.toArray[·]?)).toArray = _
 have hr : sliceRange (((its.toArray.size : Nat) : Int) - 1) (-1) (-1) = (g1e its.toArray.size).map fun (k : Nat) => (((its.toArray.size : Nat) : Int) - 1 + (k : Int) * (-1)).toNat := by
  unfold sliceRange
  have h1 : ¬ ((-1 : Int) > 0) := by omega
  simp only [h1, if_false]
  have hc : (if ((its.toArray.size : Nat) : Int) - 1 > -1 then (((its.toArray.size : Nat) : Int) - 1 - -1 - -1 - 1) / (- -1) else 0).toNat = its.toArray.size := by
   have h1' : (- -1 : Int) = 1 := rfl
   rw [h1', Int.ediv_one]
   split <;> omega
  rw [hc]
  congr 1
  funext k
  congr 1
  omega
 rw [hr, List.filterMap_map]
 exact this
section
variable {X : Cx} {a b c e st : Expr} {f g h fs : FE} {pos p2 : Pos}
theorem Hn {te ts : TE} (he : PE X e te) (hst : PE X st ts) : PE X (.Subscript e (.Slice none none (some st) p2) pos) (fun σ H Q => te σ H fun x H1 => ts σ H1 fun y H2 => y = .int (-1) /\ Nx X.K x H2 Q) := by
 intro pins s σ H Q I h
 refine Subscript_ (thn (he pins s σ H _ I h) fun v s1 ⟨x, H1, I1, r1, q1⟩ => ?_)
 refine wpAny_Slice ?_
 rw [evalPart_none]
 refine wpAny_pure ?_
 refine wpAny_pure ?_
 rw [evalPart_some]
 refine thn (hst pins s1 σ H1 _ I1 q1) fun vs s3 ⟨y, H3, I3, ry, e1, a, xs, ex, q3⟩ => ?_
 subst e1
 subst ex
 obtain ⟨t, rfl⟩ := ry
 cases r1
 have I4 : Inv X pins σ H3 { s3 with heap := s3.heap.push { cls := .type "slice", data := .fields #[.none, .none, .int (-1) t] } } := I3.kept (t' := s3.toks) fun b ob q => Heap.get?_push_of_some _ q
 show wpAny (model X.prog X.w) X.A (subscriptTail e (.Slice none none (some st) p2) (.ref a) (.ref s3.heap.objs.size)) (EP X pins σ Q) X.xe { s3 with heap := s3.heap.push { cls := .type "slice", data := .fields #[.none, .none, .int (-1) t] } }
 have hsl : Heap.IsSliceOf (s3.heap.push { cls := .type "slice", data := .fields #[.none, .none, .int (-1) t] }) s3.heap.objs.size .none .none (.int (-1) t) := Heap.IsSliceOf.new ..
 rcases q3 with ⟨hq, q⟩ | ⟨hq, q⟩
 ·obtain ⟨its, r, pl, hz⟩ := I4.tuple hq
  have hlen := r.length
  refine tail_any (ops := [.ref a, .ref s3.heap.objs.size]) pl.typeIs PyProof.Rows.slot_tuple_getitem.lookup ?_ (by with_unfolding_all rfl)
  refine jU pl hsl ?_ (by rw [g0u, <- hlen]; exact hz)
  refine ⟨.ref _, _, I4.laid (t' := s3.toks) (o := .tup xs.reverse) (fun b ob q => Heap.get?_push_of_some _ q) (g0r _) ?_, rfl, q _ (I4.hok.fresh (g0r _))⟩
  exact ⟨by rw [g1s]; exact hz, _, r.reverse, IsTup.new _ _⟩
 ·obtain ⟨its, r, pl, hz⟩ := I4.list hq
  have hlen := r.length
  refine tail_any (ops := [.ref a, .ref s3.heap.objs.size]) pl.isList.typeIs slot_list_getitem.lookup ?_ (by with_unfolding_all rfl)
  refine wpAny_getItem_list_slice pl.isList hsl .none .none (.int (-1) t) (by decide) ?_ (by rw [g0u, <- hlen]; exact hz)
  rw [YB]
  refine ⟨.ref _, _, I4.laid (t' := s3.toks) (o := .lst xs.reverse) (fun b ob q => Heap.get?_push_of_some _ q) (g0r _) ?_, rfl, q _ (I4.hok.fresh (g0r _))⟩
  exact ⟨by rw [g1s]; exact hz, _, 0, r.reverse, Heap.get?_push_size _ rfl⟩
def C1 (f fs : FE) : FE := fun ρ => (f ρ).bind fun x => (fs ρ).bind fun y => match x, y with
 | .tup ds, .int i => if i = -1 then some (.tup ds.reverse) else none
 | .lst ds, .int i => if i = -1 then some (.lst ds.reverse) else none
 | _, _ => none
def Md (f fs : FE) : FA := fun ρ => (f ρ).bind fun x => (fs ρ).bind fun y => match x, y with
 | .lst ds, .int i => if i = -1 then some ds.reverse else none
 | _, _ => none
theorem j5 {α : Type} {f g : FE} {k : D -> D -> Option α} {ρ : Rho} {r : α} (h : ((f ρ).bind fun x => (g ρ).bind fun y => k x y) = some r) : ∃ x y, f ρ = some x /\ g ρ = some y /\ k x y = some r := by
 obtain ⟨x, e1, e2⟩ := z8 h
 obtain ⟨y, e3, e4⟩ := z8 e2
 exact ⟨x, y, e1, e3, e4⟩
theorem Fb (he : DR X e f) (hst : DR X st fs) : DE X (.Subscript e (.Slice none none (some st) p2) pos) (C1 f fs) :=
 yW (Hn he hst) fun σ H Q ⟨H₀, Hf₀, ρ, Hf, d, R, q, k⟩ => by
  obtain ⟨x, y, e1, e2, e3⟩ := j5 q
  refine ⟨H₀, Hf₀, ρ, Hf, x, R, e1, fun v H1 Hf1 R1 s1 t1 h1 => ⟨H₀, Hf₀, ρ, Hf1, y, R1, e2, fun v' H2 Hf2 R2 s2 t2 h2 => ?_⟩⟩
  have h3 := h1.mono t2
  split at e3
  ·split at e3
   ·cases e3
    rename_i hi
    subst hi
    obtain ⟨a, xs, rfl, qa, la⟩ := h3.tup R2
    refine ⟨h2.int, a, xs, rfl, .inl ⟨qa, fun p hp => ?_⟩⟩
    have sm := zM (o := .tup xs.reverse) (R2.sf.free hp)
    exact k _ _ _ (R2.lay hp) ((s1.trans s2).trans (zM hp)) ((t1.trans t2).trans sm) (Has.tup_iff.mpr ⟨p, _, rfl, SqT.of zz, la.reverse.mono sm⟩)
   ·cases e3
  ·split at e3
   ·cases e3
    rename_i hi
    subst hi
    obtain ⟨a, xs, rfl, qa, la⟩ := h3.lst R2
    refine ⟨h2.int, a, xs, rfl, .inr ⟨qa, fun p hp => ?_⟩⟩
    have sm := zM (o := .lst xs.reverse) (R2.sf.free hp)
    exact k _ _ _ (R2.lay hp) ((s1.trans s2).trans (zM hp)) ((t1.trans t2).trans sm) (Has.lst_iff.mpr ⟨p, _, rfl, SqL.of zz, la.reverse.mono sm⟩)
   ·cases e3
  ·cases e3
theorem D7 (he : DR X e f) (hst : DR X st fs) : DN X (.Subscript e (.Slice none none (some st) p2) pos) (Md f fs) :=
 yW (Hn he hst) fun σ H Q ⟨H₀, Hf₀, ρ, Hf, d, R, q, k⟩ => by
  obtain ⟨x, y, e1, e2, e3⟩ := j5 q
  refine ⟨H₀, Hf₀, ρ, Hf, x, R, e1, fun v H1 Hf1 R1 s1 t1 h1 => ⟨H₀, Hf₀, ρ, Hf1, y, R1, e2, fun v' H2 Hf2 R2 s2 t2 h2 => ?_⟩⟩
  have h3 := h1.mono t2
  split at e3
  ·split at e3
   ·cases e3
    rename_i hi
    subst hi
    obtain ⟨a, xs, rfl, qa, la⟩ := h3.lst R2
    refine ⟨h2.int, a, xs, rfl, .inr ⟨qa, fun p hp => ?_⟩⟩
    exact k _ _ _ _ (R2.layN hp) ((s1.trans s2).trans (zM hp)) (t1.trans t2) la.reverse zz (R2.sf.free hp) ((s1.trans s2).free hp)
   ·cases e3
  ·cases e3
def je : List D -> Option D
 | [.lst ds] => some (.tup ds)
 | [.tup ds] => some (.tup ds)
 | _ => none
theorem qe : FnR X (fun xs H Q => ∃ p ys, xs = [.ref p] /\ ((SqL X.K H p ys /\ ∀ l, H l = none -> Q (.ref l) (upd H l (.tup ys))) \/ (SqT X.K H p ys /\ Q (.ref p) H))) je := by
 intro σ ρ H₀ Hf₀ H Hf xs ds d Q R hx hφ k
 unfold je at hφ
 split at hφ
 ·cases hφ
  obtain ⟨v, rfl, hv⟩ := hx.one
  obtain ⟨a, ys, rfl, q, l⟩ := hv.lst R
  refine ⟨a, ys, rfl, .inl ⟨q, fun p hp => ?_⟩⟩
  have sm := zM (o := .tup ys) (R.sf.free hp)
  exact k _ _ _ (R.lay hp) (zM hp) sm (Has.tup_iff.mpr ⟨p, _, rfl, SqT.of zz, l.mono sm⟩)
 ·cases hφ
  obtain ⟨v, rfl, hv⟩ := hx.one
  obtain ⟨a, ys, rfl, q, l⟩ := hv.tup R
  exact ⟨a, ys, rfl, .inr ⟨q, k _ _ _ R zB zB hv.tupF⟩⟩
 ·cases hφ
def BP (fa : FA) : FA := fun ρ => (fa ρ).bind fun l => match l with
 | [.lst ds] => some ds
 | [.tup ds] => some ds
 | _ => none
theorem Cc {es : List Expr} {fa : FA} {p : Pos} (hg : Gl X "list") (hm : X.mg "list" = none) (ha : DAR X (e :: es) fa)
  (he : starEach (e :: es) X.env = (false, eval e X.env) :: starEach es X.env := by rfl) (hpl : (backTo pos (starEach es X.env)).any (·.1) = false := by rfl) : DN X (.Call (.Name "list" p) (e :: es) [] pos) (BP fa) :=
 yW (XM (T := "list") Wo hg hm (by rfl) ha (by decide) (by decide) he hpl) fun σ H Q ⟨H₀, Hf₀, ρ, Hf, d, R, q, k⟩ => by
  obtain ⟨l, e1, e2⟩ := yZ q
  refine ⟨H₀, Hf₀, ρ, Hf, l, R, e1, fun vs H1 Hf1 R1 s1 t1 h1 => ?_⟩
  split at e2
  ·cases e2
   obtain ⟨v, rfl, hv⟩ := WD.one h1
   obtain ⟨a, ys, rfl, q, l⟩ := hv.lst R1
   exact ⟨a, ys, rfl, .inl q, fun p hp => k _ _ _ _ (R1.layN hp) (s1.trans (zM hp)) t1 l zz (R1.sf.free hp) (s1.free hp)⟩
  ·cases e2
   obtain ⟨v, rfl, hv⟩ := WD.one h1
   obtain ⟨a, ys, rfl, q, l⟩ := hv.tup R1
   exact ⟨a, ys, rfl, .inr q, fun p hp => k _ _ _ _ (R1.layN hp) (s1.trans (zM hp)) t1 l zz (R1.sf.free hp) (s1.free hp)⟩
  ·cases e2
end
end
theorem K1 {y y' : V} {u : Value} {K : W.Frag} {H : Hp} {d d' : D} (h : Has K H d y) (h' : Has K H d' y') (r : xU y u) (r' : xU y' u) : y = y' := by
 cases d with
 | non =>
  cases Has.non_iff.mp h
  cases r
  cases d' with
  | non => cases Has.non_iff.mp h'; rfl
  | bl _ => cases Has.bl_iff.mp h'; cases r'
  | int _ => cases Has.int_iff.mp h'; obtain ⟨t, e⟩ := r'; cases e
  | str _ => cases Has.str_iff.mp h'; obtain ⟨t, e⟩ := r'; cases e
  | tup _ => obtain ⟨_, _, rfl, _⟩ := Has.tup_iff.mp h'; cases r'
  | lst _ => obtain ⟨_, _, rfl, _⟩ := Has.lst_iff.mp h'; cases r'
 | bl b =>
  cases Has.bl_iff.mp h
  cases r
  cases d' with
  | non => cases Has.non_iff.mp h'; cases r'
  | bl _ => cases Has.bl_iff.mp h'; cases r'; rfl
  | int _ => cases Has.int_iff.mp h'; obtain ⟨t, e⟩ := r'; cases e
  | str _ => cases Has.str_iff.mp h'; obtain ⟨t, e⟩ := r'; cases e
  | tup _ => obtain ⟨_, _, rfl, _⟩ := Has.tup_iff.mp h'; cases r'
  | lst _ => obtain ⟨_, _, rfl, _⟩ := Has.lst_iff.mp h'; cases r'
 | int b =>
  cases Has.int_iff.mp h
  obtain ⟨t0, rfl⟩ := r
  cases d' with
  | non => cases Has.non_iff.mp h'; cases r'
  | bl _ => cases Has.bl_iff.mp h'; cases r'
  | int _ => cases Has.int_iff.mp h'; obtain ⟨t, e⟩ := r'; cases e; rfl
  | str _ => cases Has.str_iff.mp h'; obtain ⟨t, e⟩ := r'; cases e
  | tup _ => obtain ⟨_, _, rfl, _⟩ := Has.tup_iff.mp h'; cases r'
  | lst _ => obtain ⟨_, _, rfl, _⟩ := Has.lst_iff.mp h'; cases r'
 | str b =>
  cases Has.str_iff.mp h
  obtain ⟨t0, rfl⟩ := r
  cases d' with
  | non => cases Has.non_iff.mp h'; cases r'
  | bl _ => cases Has.bl_iff.mp h'; cases r'
  | int _ => cases Has.int_iff.mp h'; obtain ⟨t, e⟩ := r'; cases e
  | str _ => cases Has.str_iff.mp h'; obtain ⟨t, e⟩ := r'; cases e; rfl
  | tup _ => obtain ⟨_, _, rfl, _⟩ := Has.tup_iff.mp h'; cases r'
  | lst _ => obtain ⟨_, _, rfl, _⟩ := Has.lst_iff.mp h'; cases r'
 | tup ds =>
  obtain ⟨a, _, rfl, _⟩ := Has.tup_iff.mp h
  cases r
  cases d' with
  | non => cases Has.non_iff.mp h'; cases r'
  | bl _ => cases Has.bl_iff.mp h'; cases r'
  | int _ => cases Has.int_iff.mp h'; obtain ⟨t, e⟩ := r'; cases e
  | str _ => cases Has.str_iff.mp h'; obtain ⟨t, e⟩ := r'; cases e
  | tup _ => obtain ⟨_, _, rfl, _⟩ := Has.tup_iff.mp h'; cases r'; rfl
  | lst _ => obtain ⟨_, _, rfl, _⟩ := Has.lst_iff.mp h'; cases r'; rfl
 | lst ds =>
  obtain ⟨a, _, rfl, _⟩ := Has.lst_iff.mp h
  cases r
  cases d' with
  | non => cases Has.non_iff.mp h'; cases r'
  | bl _ => cases Has.bl_iff.mp h'; cases r'
  | int _ => cases Has.int_iff.mp h'; obtain ⟨t, e⟩ := r'; cases e
  | str _ => cases Has.str_iff.mp h'; obtain ⟨t, e⟩ := r'; cases e
  | tup _ => obtain ⟨_, _, rfl, _⟩ := Has.tup_iff.mp h'; cases r'; rfl
  | lst _ => obtain ⟨_, _, rfl, _⟩ := Has.lst_iff.mp h'; cases r'; rfl
open Classical in
noncomputable def WJ (K : W.Frag) (H : Hp) (dx : D) (u : Value) : Bool := decide (∃ d y, xU y u /\ Has K H d y /\ eqD d dx = true)
section
variable {X : Cx} {pins : List (Addr × Obj)} {σ : St} {H : Hp} {s : Shared}
open Classical in
theorem Ks (I : Inv X pins σ H s) {dx d : D} {y : V} {u : Value} (r : xU y u) (h : Has X.K H d y) : WJ X.K H dx u = eqD d dx := by
 unfold WJ
 cases hq : eqD d dx with
 | true => exact decide_eq_true ⟨d, y, r, h, hq⟩
 | false =>
  refine decide_eq_false ?_
  rintro ⟨d', y', r', h', e'⟩
  cases K1 h' h r' r
  cases Has.inj I h' h
  rw [hq] at e'; cases e'
theorem jA (I : Inv X pins σ H s) {dx : D} : ∀ {ds : List D} {xs : List V} {us : List Value}, ya X.K H ds xs -> xf xs us -> us.any (WJ X.K H dx) = ds.any fun d => eqD d dx
 | [], _, _, h, r => by rw [ya.nil_iff] at h; subst h; cases r; rfl
 | d :: ds, _, _, h, r => by
  obtain ⟨x, xr, rfl, h1, h2⟩ := ya.cons_iff.mp h
  cases r with
  | cons r rr => rw [List.any_cons, List.any_cons, Ks I r h1, jA I h2 rr]
theorem jo (I : Inv X pins σ H s) {A : Around} {dx : D} {x : V} {v : Value} (hx : Has X.K H dx x) (rx : xU x v) : ∀ {ds : List D} {xs : List V} {us : List Value}, ya X.K H ds xs -> xf xs us -> A.units + uV ds < cLine -> ∀ u ∈ us, SeqAt.EqAt A s u v (WJ X.K H dx u)
 | [], _, _, h, r, _ => by rw [ya.nil_iff] at h; subst h; cases r; intro u hu; cases hu
 | d :: ds, _, _, h, r, hu => by
  obtain ⟨y, yr, rfl, h1, h2⟩ := ya.cons_iff.mp h
  unfold uV at hu
  cases r with
  | cons r rr =>
   intro u' hu'
   rcases g0q.mp hu' with rfl | hm
   ·rw [Ks I r h1]
    exact Kc I d A dx y x _ v h1 hx r rx (by have := Nat.le_max_left (dep d) (uV ds); omega)
   ·exact jo I hx rx h2 rr (by have := Nat.le_max_right (dep d) (uV ds); omega) u' hm
end
section
variable {X : Cx} {e a b c : Expr} {f g h : FE} {pos p2 : Pos} {kk : Nat}
def inS (x z : Str) : Bool := !(Builtin.Str.occurrences z x 0 z.length 1).isEmpty
def Me (K : W.Frag) (neg : Bool) : R2 := fun x y H Q => (∃ p ds xs dx, y = .ref p /\ (SqL K H p xs \/ SqT K H p xs) /\ ya K H ds xs /\ Has K H dx x /\ uV ds <= 100 /\ Q (.bl (xor neg (ds.any fun d => eqD d dx))) H) ∨
 (∃ i j, x = .str i /\ y = .str j /\ Q (.bl (xor neg (inS i j))) H)
theorem Hs (hr : Room kk X.A) : OpR X (compareOp .In) (Me X.K false) := by
 intro pins s σ H x y v u Q I rx ry h
 rcases h with ⟨p, ds, xs, dx, rfl, hq, hl, hx, hd, q⟩ | h
 ·cases ry
  have hu : X.A.in1.units + uV ds < cLine := by show X.A.units + 1 + uV ds < cLine; have := hr.un; omega
  simp only [Bool.false_xor] at q
  rcases hq with hq | hq
  ·obtain ⟨its, r, pl, hz⟩ := I.list hq
   refine SeqAt.in_listAt (WJ X.K H dx) pl.isList (fun w hw => jo I hx rx hl r hu w (by simpa using hw)) ⟨.bl _, H, I, rfl, ?_⟩
   rw [show its.toArray.any (WJ X.K H dx) = its.any (WJ X.K H dx) by simp, jA I hl r]
   exact q
  ·obtain ⟨its, r, pl, hz⟩ := I.tuple hq
   refine SeqAt.in_tupleAt (WJ X.K H dx) pl (fun w hw => jo I hx rx hl r hu w (by simpa using hw)) ⟨.bl _, H, I, rfl, ?_⟩
   rw [show its.toArray.any (WJ X.K H dx) = its.any (WJ X.K H dx) by simp, jA I hl r]
   exact q
 ·obtain ⟨i, j, e1, e2, q⟩ := h
  exact Ji pins s σ H x y v u Q I rx ry ⟨i, j, e1, e2, by simpa [inS] using q⟩
theorem XR (hr : Room kk X.A) : OpR X (compareOp .NotIn) (Me X.K true) := by
 intro pins s σ H x y v u Q I rx ry h
 rcases h with ⟨p, ds, xs, dx, rfl, hq, hl, hx, hd, q⟩ | h
 ·cases ry
  have hu : X.A.in1.units + uV ds < cLine := by show X.A.units + 1 + uV ds < cLine; have := hr.un; omega
  simp only [Bool.true_xor] at q
  rcases hq with hq | hq
  ·obtain ⟨its, r, pl, hz⟩ := I.list hq
   refine SeqAt.notIn_listAt (WJ X.K H dx) pl.isList (fun w hw => jo I hx rx hl r hu w (by simpa using hw)) ⟨.bl _, H, I, rfl, ?_⟩
   rw [show its.toArray.any (WJ X.K H dx) = its.any (WJ X.K H dx) by simp, jA I hl r]
   exact q
  ·obtain ⟨its, r, pl, hz⟩ := I.tuple hq
   refine SeqAt.notIn_tupleAt (WJ X.K H dx) pl (fun w hw => jo I hx rx hl r hu w (by simpa using hw)) ⟨.bl _, H, I, rfl, ?_⟩
   rw [show its.toArray.any (WJ X.K H dx) = its.any (WJ X.K H dx) by simp, jA I hl r]
   exact q
 ·obtain ⟨i, j, e1, e2, q⟩ := h
  exact XQ pins s σ H x y v u Q I rx ry ⟨i, j, e1, e2, by simpa [inS] using q⟩
def inD (neg : Bool) : D -> D -> Option D
 | x, .lst ds => if uV ds <= 100 then some (.bl (xor neg (ds.any fun d => eqD d x))) else none
 | x, .tup ds => if uV ds <= 100 then some (.bl (xor neg (ds.any fun d => eqD d x))) else none
 | .str x, .str z => some (.bl (xor neg (inS x z)))
 | _, _ => none
theorem V1 {neg : Bool} : OpD X (Me X.K neg) (inD neg) := by
 intro σ ρ H₀ Hf₀ H Hf x y dx dy d Q R hx hy hφ k
 unfold inD at hφ
 split at hφ
 ·split at hφ
  ·cases hφ
   rename_i hd
   obtain ⟨a, xs, rfl, qa, la⟩ := hy.lst R
   exact .inl ⟨a, _, xs, dx, rfl, .inl qa, la.mono R.sf, hx.full R, hd, k _ _ _ R zB zB (Has.bl_iff.mpr rfl)⟩
  ·cases hφ
 ·split at hφ
  ·cases hφ
   rename_i hd
   obtain ⟨a, xs, rfl, qa, la⟩ := hy.tup R
   exact .inl ⟨a, _, xs, dx, rfl, .inr qa, la.mono R.sf, hx.full R, hd, k _ _ _ R zB zB (Has.bl_iff.mpr rfl)⟩
  ·cases hφ
 ·cases hφ
  exact .inr ⟨_, _, hx.str, hy.str, k _ _ _ R zB zB (Has.bl_iff.mpr rfl)⟩
 ·cases hφ
theorem ME (hr : Room kk X.A) (ha : DR X a f) (hb : DR X b g) (hm : behindInMarks .In b = false := by rfl) : DE X (.Compare a [.In] [b] pos) (zc (inD false) f g) := GX (Hs hr) V1 ha hb hm
theorem Vr (hr : Room kk X.A) (ha : DR X a f) (hb : DR X b g) (hm : behindInMarks .NotIn b = false := by rfl) : DE X (.Compare a [.NotIn] [b] pos) (zc (inD true) f g) := GX (XR hr) V1 ha hb hm
theorem MB (hr : Room kk X.A) (ha : DR X a f) (hb : DR X b g) (hm : behindInMarks .In b = false := by rfl) : DT X (.Compare a [.In] [b] pos) (blF (zc (inD false) f g)) := xw (Hs hr) V1 ha hb hm
theorem GO (hr : Room kk X.A) (ha : DR X a f) (hb : DR X b g) (hm : behindInMarks .NotIn b = false := by rfl) : DT X (.Compare a [.NotIn] [b] pos) (blF (zc (inD true) f g)) := xw (XR hr) V1 ha hb hm
def ql (φ ψ : D -> D -> Option D) (f g h : FE) : FE := fun ρ => (f ρ).bind fun x => (g ρ).bind fun y => (φ x y).bind fun
 | .bl true => (h ρ).bind fun z => ψ y z
 | .bl false => some (.bl false)
 | _ => none
theorem Xx {r r' : R2} {φ ψ : D -> D -> Option D} (hφ : OpD X r φ) (hψ : OpD X r' ψ) (σ : St) (H : Hp) (Q : VK) (hh : tF X.K (ql φ ψ f g h) σ H Q) : QH r r' (tR X.K f) (tR X.K g) (tR X.K h) σ H Q := by
 obtain ⟨H₀, Hf₀, ρ, Hf, d, R, q, k⟩ := hh
 obtain ⟨x, y, e1, e2, e3⟩ := j5 q
 obtain ⟨z, e4, e5⟩ : ∃ z, φ x y = some z /\ _ = some d := by
  cases hz : φ x y with
  | none => rw [hz] at e3; cases e3
  | some z => rw [hz] at e3; exact ⟨z, rfl, e3⟩
 refine ⟨H₀, Hf₀, ρ, Hf, x, R, e1, fun v H1 Hf1 R1 s1 t1 h1 => ⟨H₀, Hf₀, ρ, Hf1, y, R1, e2, fun v' H2 Hf2 R2 s2 t2 h2 => ?_⟩⟩
 refine hφ σ ρ H₀ Hf₀ H2 Hf2 v v' x y z _ R2 (h1.mono t2) h2 e4 fun w H3 Hf3 R3 s3 t3 h3 => ?_
 cases z with
 | bl b =>
  refine ⟨b, Has.bl_iff.mp h3, ?_⟩
  cases b with
  | true =>
   obtain ⟨z', e6, e7⟩ := z8 e5
   refine Gy ⟨H₀, Hf₀, ρ, Hf3, z', R3, e6, fun w' H4 Hf4 R4 s4 t4 h4 => ?_⟩
   exact hψ σ ρ H₀ Hf₀ H4 Hf4 v' w' y z' d Q R4 ((h2.mono t3).mono t4) h4 e7 fun u H5 Hf5 R5 s5 t5 h5 => k _ _ _ R5 ((((s1.trans s2).trans s3).trans s4).trans s5) ((((t1.trans t2).trans t3).trans t4).trans t5) h5
  | false =>
   cases e5
   exact Gz (k _ _ _ R3 ((s1.trans s2).trans s3) ((t1.trans t2).trans t3) (Has.bl_iff.mpr rfl))
 | _ => cases e5
theorem Cg {op op' : CmpOp} {r r' : R2} {φ ψ : D -> D -> Option D} (ho : OpR X (compareOp op) r) (ho' : OpR X (compareOp op') r') (hφ : OpD X r φ) (hψ : OpD X r' ψ) (ha : DR X a f) (hb : DR X b g) (hc : DR X c h)
  (hm : lastMarks [op, op'] [b, c] = false := by with_unfolding_all rfl) : DE X (.Compare a [op, op'] [b, c] pos) (ql φ ψ f g h) := yW (K8 ho ho' ha hb hc hm) (Xx hφ hψ)
theorem kO {op op' : CmpOp} {r r' : R2} {φ ψ : D -> D -> Option D} (ho : OpR X (compareOp op) r) (ho' : OpR X (compareOp op') r') (hφ : OpD X r φ) (hψ : OpD X r' ψ) (ha : DR X a f) (hb : DR X b g) (hc : DR X c h)
  (hm : lastMarks [op, op'] [b, c] = false := by with_unfolding_all rfl) : DT X (.Compare a [op, op'] [b, c] pos) (blF (ql φ ψ f g h)) :=
 VS (K2 ho ho' ha hb hc hm) fun σ H Q ⟨H₀, Hf₀, ρ, Hf, d, R, q, k⟩ => Xx hφ hψ σ H _ ⟨H₀, Hf₀, ρ, Hf, _, R, Xc q, fun v H1 Hf1 R1 s1 t1 h1 => ⟨d, Has.bl_iff.mp h1, k _ _ R1 s1 t1⟩⟩
structure GTup (K : W.Frag) (mg : Str -> Option Value) (x : Str) (ds : List D) : Prop where
 ex : ∃ a, mg x = some (.ref a) /\ Has K (fun _ => none) (.tup ds) (.ref a)
theorem XC {H : Hp} : yo (fun _ => none) H := fun _ _ e => by cases e
theorem Kj {x : Str} {ds : List D} (hg : Gl X x) (hm : GTup X.K X.mg x ds) (hd : (x == ("__debug__" : Str)) = false := by decide) : DE X (.Name x pos) (cF (.tup ds)) := by
 obtain ⟨a, h1, h2⟩ := hm.ex
 exact yW (W2 (v := .ref a) hg h1 rfl hd) fun σ H Q ⟨H₀, Hf₀, ρ, Hf, d', R, q, k⟩ => by
  cases q
  exact k _ _ _ R zB zB (h2.mono XC)
theorem JZ {K : W.Frag} {mg : Str -> Option Value} {x : Str} {ds : List D} {a : Addr} {xs : List V} {its : Array Value} {od : Option Addr} {n : Nat} {osl : Array (Option Value)} (h1 : mg x = some (.ref a)) (h2 : K.lookup a = some ⟨.type "tuple", od, .seq its n, osl⟩) (hz : its.size <= sizeLine) (hv : xf xs its.toList) (hl : ya K (fun _ => none) ds xs) : GTup K mg x ds :=
 ⟨a, h1, Has.tup_iff.mpr ⟨a, xs, rfl, .inr ⟨_, its, n, h2, rfl, rfl, hz, hv⟩, hl⟩⟩
structure GDict (K : W.Frag) (mg : Str -> Option Value) (x : Str) (kvs : List (Int × D)) : Prop where
 ex : ∃ (a : Addr) (o : Obj) (es : Array DictEntry) (ep : Nat) (vs : List (Int × Value)), mg x = some (.ref a) /\ K.lookup a = some o /\ o.ExactDict /\ o.data = .dict es ep /\ (∀ P w, KeysOf (intKind P w) es /\ Pairs (intKind P w) es.toList vs) /\ (vs.map (·.1)).Nodup ∧
  ∀ k d, kvs.lookup k = some d -> ∃ u v, valueAt vs k = some u /\ xU v u /\ Has K (fun _ => none) d v
def jR (kvs : List (Int × D)) : D -> Option D
 | .int k => kvs.lookup k
 | _ => none
theorem Ce {x : Str} {i : Expr} {kvs : List (Int × D)} {p : Pos} (hg : Gl X x) (hm : GDict X.K X.mg x kvs) (hi : DR X i f) (hs : Nb i := by intro _ _; rfl) (hd : (x == ("__debug__" : Str)) = false := by decide) : DE X (.Subscript (.Name x p) i pos) (y0 (jR kvs) f) := by
 obtain ⟨a, o, es, ep, vs, h1, h2, h3, h4, h5, h6, h7⟩ := hm.ex
 intro pins s σ H Q I h
 obtain ⟨H₀, Hf₀, ρ, Hf, d, R, q, k⟩ := h
 obtain ⟨y, e1, e2⟩ := z8 q
 unfold jR at e2
 split at e2
 ·rename_i n
  obtain ⟨u, v, q1, q2, q3⟩ := h7 n d e2
  refine HN PySem.F.slot_dict_getitem.lookup hs (thn (W2 (v := .ref a) hg h1 rfl hd pins s σ H (fun x H1 => x = .ref a /\ H1 = H) I ⟨rfl, rfl⟩) fun u0 s1 ⟨x, H1, I1, rx, ex, eH⟩ => ?_)
  subst ex eH
  cases rx
  refine thn (hi pins s1 σ H1 (fun y H2 => y = .int n /\ ∃ Hf2, Rep X.K H₀ Hf₀ σ ρ H2 Hf2 /\ yo H1 H2 /\ yo Hf Hf2) I1 ⟨H₀, Hf₀, ρ, Hf, _, R, e1, fun v H1 Hf1 R1 s1 t1 h1 => ⟨h1.int, Hf1, R1, s1, t1⟩⟩) fun iv s2 ⟨y, H2, I2, ry, ey, Hf2, R2, s2', t2⟩ => ?_
  subst ey
  obtain ⟨t, rfl⟩ := ry
  have hb := I2.kIn a o h2
  have hdo : s2.heap.DictOf (intKind X.prog X.w) a vs := ⟨o, es, ep, hb, h3, h4, (h5 _ _).1, (h5 _ _).2, h6⟩
  refine ⟨⟨o, hb, h3.1⟩, wpAny_getItem_of (knd := intKind X.prog X.w) (k := n) (by show Value.isInt n (.int n t) = true; simp [Value.isInt]) hdo.mapOf q1 ⟨v, H2, I2.tok _, q2, ?_⟩⟩
  exact k _ _ _ R2 s2' t2 (q3.mono XC)
 ·cases e2
end
theorem Zm : Manifest.owners.lookup (String.ofList ['d', 'e', 's', 'r', 'e', 'v', 'e', 'r'].reverse) = some Manifest.sig_reversed := by kernel_rfl
theorem yx : PySem.Slot "reversed" "__next__" "reversed.__next__" :=
 .of (owner := "reversed") (n := "__next__") (by rw [typeLookup_type, builtinLookup_eq_fast]; kernel_rfl) (by decide +kernel) (by decide +kernel) (by decide +kernel)
  (by first | exact .inl (by decide +kernel) | exact .inr (by decide +kernel)) (by rw [isSubtype_type]; kernel_rfl)
theorem wF : entryFor table "reversed.__next__" = some Builtin.«reversed.__next__» := entryFor_of_tree (by kernel_rfl)
theorem vb (a : Value) : argsOk "reversed.__next__" ⟨[a], []⟩ := by
 unfold argsOk; rw [signature?_of (id := "reversed.__next__") (n := ['_', '_', 't', 'x', 'e', 'n', '_', '_']) (o := ['d', 'e', 's', 'r', 'e', 'v', 'e', 'r']) (by kernel_rfl) Zm]; kernel_rfl
theorem jf : PySem.Slot "reversed" "__iter__" "reversed.__iter__" :=
 .of (owner := "reversed") (n := "__iter__") (by rw [typeLookup_type, builtinLookup_eq_fast]; kernel_rfl) (by decide +kernel) (by decide +kernel) (by decide +kernel)
  (by first | exact .inl (by decide +kernel) | exact .inr (by decide +kernel)) (by rw [isSubtype_type]; kernel_rfl)
theorem Xe (a : Value) : argsOk "reversed.__iter__" ⟨[a], []⟩ := by
 unfold argsOk; rw [signature?_of (id := "reversed.__iter__") (n := ['_', '_', 'r', 'e', 't', 'i', '_', '_']) (o := ['d', 'e', 's', 'r', 'e', 'v', 'e', 'r']) (by kernel_rfl) Zm]; kernel_rfl
theorem ZW : entryFor table "reversed.__iter__" = some Builtin.«dict_keyiterator.__iter__» :=
 entryFor_alias (id' := "dict_keyiterator.__iter__") (by kernel_rfl) (by first | rfl | decide +kernel | (unfold String.splitOn; simp +decide [String.splitOnAux])) (by decide +kernel) (by kernel_rfl)
theorem YA : PySem.Slot "reversed" "__init__" "object.__init__" :=
 .of (owner := "object") (n := "__init__") (by rw [typeLookup_type, builtinLookup_eq_fast]; kernel_rfl) (by decide +kernel) (by decide +kernel) (by decide +kernel)
  (by first | exact .inl (by decide +kernel) | exact .inr (by decide +kernel)) (by rw [isSubtype_type]; kernel_rfl)
theorem Qk : TypeCalled "reversed" "reversed.__new__" "object.__init__" :=
 ⟨by decide +kernel, by decide +kernel, ⟨_, _, F.mro_reversed⟩, F.made_reversed, by decide +kernel, by rw [isSubtype_type]; kernel_rfl, YA⟩
theorem jE : typeLookup (.type "tuple") "__reversed__" = pure none := by rw [typeLookup_type, builtinLookup_eq_fast]; kernel_rfl
theorem ZU : isSubtype (.type "tuple") (.type "dict") = pure false := by rw [isSubtype_type]; kernel_rfl
abbrev qZ (h : Heap) (r t : Addr) (i : Int) : Prop := h.get? r = some { cls := .type "reversed", dict := none, data := .fields #[.ref t, rawInt i], slots := #[] }
section
variable {prog : Program} {w : World} {A : Around} {E : Value -> Shared -> Prop} {s : Shared}
theorem jl {r t : Addr} {i : Nat} {items : Array Value} {x : Value} {Q : Value -> Shared -> Prop} (hr : qZ s.heap r t (i : Int)) (ht : IsTup s.heap t items) (hx : items[i]? = some x) (hz : items.size <= sizeLine)
  (hQ : ∀ h', qZ h' r t ((i : Int) - 1) -> Heap.SameBut r s.heap h' -> Q x { s with heap := h', toks := s.toks + 1 }) : wpAny (model prog w) A (Builtin.«reversed.__next__» ⟨[.ref r], []⟩) (fun fin s' => ∃ v, fin = .done (.ret v) /\ Q v s') E s := by
 have hi : i < items.size := (Array.getElem?_eq_some_iff.mp hx).1
 have hn := qK
 show wpAny _ _ (field (.ref r) 0 >>= _) _ _ _
 refine wpAny_bind (wpAny_field hr rfl (x := .ref t) rfl ?_)
 show wpAny _ _ (field (.ref r) 1 >>= _) _ _ _
 refine wpAny_bind (wpAny_field hr rfl (x := rawInt (i : Int)) rfl ?_)
 show wpAny _ _ (if ((i : Int) < 0) then _ else _) _ _ _
 rw [if_neg (by omega)]
 refine wpAny_bind (wpAny_specialOf ht.typeIs PyProof.Rows.slot_tuple_getitem.lookup ?_)
 show wpAny _ _ (if (false = true) then _ else _) _ _ _
 rw [if_neg g1q]
 show wpAny _ _ (mkInt (i : Int) >>= _) _ _ _
 refine wpAny_bind (wpAny_mkInt ?_)
 refine wpAny_bind (wpAny_attempt ?_)
 refine getItem_tuple (j := i) ht (by omega) (by omega) (seqIndex_of (by omega) (by omega)) hx ?_
 show wpAny _ _ (field (.ref r) 1 >>= _) _ _ _
 refine wpAny_bind (wpAny_field (s := { s with toks := s.toks + 1 }) hr rfl (x := rawInt (i : Int)) rfl ?_)
 refine wpAny_bind (wpAny_setField_rec (s := { s with toks := s.toks + 1 }) hr (by simp) fun h₁ hr₁ hs₁ => ?_)
 exact wpAny_pure ⟨_, rfl, hQ h₁ hr₁ hs₁⟩
theorem ko {r t : Addr} {i : Int} {Q : Fin -> Shared -> Prop} (hh : A.handled = none) (hr : qZ s.heap r t i) (hi : i < 0)
  (hE : ∀ h' e, Heap.ExtBut r s.heap h' -> (∃ o, h'.get? e = some o /\ o.cls = .type "StopIteration") -> E (.ref e) { s with heap := h' }) : wpAny (model prog w) A (Builtin.«reversed.__next__» ⟨[.ref r], []⟩) Q E s := by
 show wpAny _ _ (field (.ref r) 0 >>= _) _ _ _
 refine wpAny_bind (wpAny_field hr rfl (x := .ref t) rfl ?_)
 show wpAny _ _ (field (.ref r) 1 >>= _) _ _ _
 refine wpAny_bind (wpAny_field hr rfl (x := rawInt i) rfl ?_)
 show wpAny _ _ (if (i < 0) then _ else _) _ _ _
 rw [if_pos hi]
 refine wpAny_bind (wpAny_rule ?_)
 refine wpAny_bind ?_
 show wpAny _ _ (setField (.ref r) 1 (rawInt (-1)) >>= fun _ => setField (.ref r) 0 .none) _ _ _
 refine wpAny_bind (wpAny_setField_rec hr (by simp) fun h₁ hr₁ hs₁ => ?_)
 refine wpAny_setField_rec hr₁ (by simp) fun h₂ hr₂ hs₂ => ?_
 refine wpAny_bind ?_
 show wpAny _ _ (newExc (.type "StopIteration") [] >>= _) _ _ _
 refine wpAny_bind ?_
 simp only [newExc, newTuple]
 refine wpAny_bind (wpAny_newObj_type ?_ (by size_fits))
 refine wpAny_bind (m := firstArgMember _ _) (wpAny_of_eq (a := Value.none) (by first | rfl | (simp only [firstArgMember]; rfl)) ?_)
 refine wpAny_newObj_type ?_ (by size_fits)
 simp only [raiseNew]
 refine wpAny_bind (wpAny_handled ?_)
 first | rw [show A.in1.handled = none from hh] | rw [hh]
 refine wpAny_bind (wpAny_pure (wpAny_throw ?_))
 exact hE _ _ (fun b o hb e => Heap.get?_push_of_some _ (Heap.get?_push_of_some _ ((hs₂.2 b hb).trans ((hs₁.2 b hb).trans e)))) ⟨_, Heap.get?_push_size _ rfl, rfl⟩
theorem JE (t : Addr) (items : Array Value) (hfit : (items.size : Int) < 2 ^ 63) : Meets (Builtin.«reversed.__new__» ⟨[.type "reversed", .ref t], []⟩) (fun _ R s => IsTup s.heap t items ∧
  R (.ok (.ret (.ref s.heap.objs.size))) { s with heap := s.heap.push { cls := .type "reversed", data := .fields #[.ref t, rawInt ((items.size : Int) - 1)] }, toks := s.toks + 1 + 1 }) :=
 .of_wp fun prog w A R s h => by
  obtain ⟨ht, h⟩ := h
  unfold Builtin.«reversed.__new__»
  refine wpAny_bind (wpAny_of_eq (newClass_reversed _) ?_)
  try dsimp only
  refine wpAny_bind (wpAny_of_eq (a := ()) (by first | rfl | kernel_rfl) ?_)
  refine wpAny_bind (wpAny_of_eq (a := ()) (by first | rfl | kernel_rfl) ?_)
  try dsimp only
  refine wpAny_bind (wpAny_specialOf ht.typeIs jE ?_)
  try dsimp only
  refine wpAny_bind ?_
  show wpAny _ _ (isInstance (.ref t) (.type "dict") >>= _) _ _ _
  refine wpAny_bind (wpAny_isInstance ht.typeIs ZU ?_)
  show wpAny _ _ (if (false = true) then _ else _) _ _ _
  rw [if_neg g1q]
  refine wpAny_bind (wpAny_specialOf ht.typeIs PyProof.Rows.slot_tuple_getitem.lookup ?_)
  try dsimp only
  rw [if_pos (by decide)]
  refine wpAny_pure ?_
  show wpAny _ _ (if (false = true) then _ else _) _ _ _
  rw [if_neg g1q]
  refine wpAny_bind (len_tuple ht hfit ?_)
  refine wpAny_bind (wpAny_of_eq (a := some (items.size : Int)) rfl ?_)
  try dsimp only
  refine wpAny_bind ?_
  show wpAny _ _ (newObj (.type "reversed") (.fields #[.ref t, rawInt ((items.size : Int) - 1)])) _ _ _
  exact wpAny_newObj_type (wpAny_pure ⟨_, rfl, h⟩)
theorem Up {t : Addr} {items : Array Value} {Q : Value -> Shared -> Prop} (ht : IsTup s.heap t items) (hfit : (items.size : Int) < 2 ^ 63)
  (h : Q (.ref s.heap.objs.size) { s with heap := s.heap.push { cls := .type "reversed", data := .fields #[.ref t, rawInt ((items.size : Int) - 1)] }, toks := s.toks + 1 + 1 }) : wpAny (model prog w) A (call (.type "reversed") [.ref t]) Q E s :=
 callType_new Qk (by decide) (F.typeCall_reversed_1 _) (F.newCall_reversed_1 _) (fun obj => F.args_object_init_2 obj _) F.entry_reversed_new (JE t items hfit) ⟨ht, ⟨_, Heap.get?_push_size _ rfl, rfl⟩, h⟩
theorem jN {r t : Addr} {i : Int} {Q : Value -> Shared -> Prop} (he : qZ s.heap r t i) (h : Q (.ref r) s) : wpAny (model prog w) A (pyIter (.ref r)) Q E s := by
 have hT : s.TypeIs (.ref r) "reversed" := ⟨_, he, rfl⟩
 refine wpAny_pyIter_slot hT jf (wpAny_call_entry jf hT ZW ?_ (Xe _))
 show wpAny _ _ (ret (.ref r)) _ _ s
 exact wpAny_pure ⟨_, rfl, "reversed", _, hT, yx.lookup, h⟩
end
def ItB (K : W.Frag) (a : Addr) (n : Nat) : It :=
 ⟨fun i H => ∃ xs x, SqT K H a xs /\ xs.length = n /\ xs.reverse[i]? = some x, fun i H x H' => H' = H /\ ∀ xs, SqT K H a xs -> xs.reverse[i]? = some x, fun i H => ∃ xs, SqT K H a xs /\ xs.length = n /\ n <= i⟩
theorem KI {P : Program} {w : World} {K : W.Frag} {tg : Expr} (a r : Addr) (n : Nat) : Turn P w K tg (ItB K a n) [r] r (fun i h => qZ h r a ((n : Int) - 1 - i)) where
 mem := by simp
 obj := fun i h st b hb => by
  have e : b = r := by simpa using hb
  subst e
  exact ⟨_, st, fun v z => by cases z⟩
 keep := fun i h h' st k => k r (by simp) _ st
 item := by
  intro X hP hw hK hc i pins s σ H E I hf st hg
  subst hP hw hK
  obtain ⟨xs, x, hq, hn, hx⟩ := hg
  obtain ⟨its, rv, p, hz⟩ := I.tuple hq
  have hl := rv.length
  have hi : i < xs.length := by have := (g0y.mp hx).1; simpa using this
  have hx' : xs[xs.length - 1 - i]? = some x := by rw [g2u hi] at hx; exact hx
  obtain ⟨u, hu, ru⟩ := rv.get hx'
  have fr := hf r (by simp)
  have hT : s.TypeIs (.ref r) "reversed" := ⟨_, st, rfl⟩
  have hk : ((n : Int) - 1 - i) = ((xs.length - 1 - i : Nat) : Int) := by omega
  rw [hk] at st
  unfold pyNext
  refine wpAny_bind (wpAny_attempt (wpAny_callSpecial?_slot (name := Str.ofString "__next__") hT yx (wpAny_call_entry yx hT wF
   (jl st p (x := u) (by simpa using hu) (by rw [g0u, <- hl]; exact hz) fun h' st' sb => wpAny_pure ?_) (vb _))))
  have I1 : Inv X pins σ H { s with heap := h', toks := s.toks + 1 } := uW (t' := s.toks + 1) I sb fr
  refine ⟨u, rfl, J0 (s := { s with heap := h', toks := s.toks + 1 }) st' rfl rfl (by decide) ⟨x, H, I1, ru, ⟨rfl, fun ys hy => by rw [I.tuple_inj hy hq]; exact hx⟩, ?_, fun b hb => (hf b hb).1⟩⟩
  have e : ((n : Int) - 1 - ((i + 1 : Nat) : Int)) = ((xs.length - 1 - i : Nat) : Int) - 1 := by omega
  show qZ h' r a ((n : Int) - 1 - ((i + 1 : Nat) : Int))
  rw [e]
  exact st'
 done := by
  intro X hP hw hK hc i pins s σ H E I hf st hg
  subst hP hw hK
  obtain ⟨xs, hq, hn, hx⟩ := hg
  have fr := hf r (by simp)
  have hT : s.TypeIs (.ref r) "reversed" := ⟨_, st, rfl⟩
  unfold pyNext
  refine wpAny_bind (wpAny_attempt (wpAny_callSpecial?_slot (name := Str.ofString "__next__") hT yx (wpAny_call_entry yx hT wF
   (ko (show X.A.in1.handled = none from I.ok.hd hc) st (by omega) fun h' e eb ⟨o, ho, hcl⟩ => ?_) (vb _))))
  refine wpAny_bind (wpAny_isInstance (T := "StopIteration") (b := true) ⟨o, ho, hcl⟩ isSubtype_stop ?_)
  obtain ⟨f0, f1, f2, f3, f4, f5⟩ := fr
  exact wpAny_pure ⟨rfl, I.turned (t' := s.toks) (fun b o hb e => eb b o hb e) f0 f1 f3 f4 f5⟩
 self := fun A i s Q E st h => jN st h
section
variable {X : Cx} {e : Expr} {f : FE} {pos : Pos} {tg : Expr}
def JS (f : FE) : FA := fun ρ => (f ρ).bind fun | .tup ds => some ds.reverse | _ => none
theorem QA {K : W.Frag} {Hf : Hp} {a : Addr} {xs : List V} {ds : List D} (qa : SqT K Hf a xs) (la : ya K Hf ds xs) : Walks K Hf (ItB K a xs.length) ds.reverse := fun H2 Hf2 t2 sf2 i => by
 refine ⟨fun d hd => ?_, fun hle => ⟨xs, uT sf2 (uT t2 qa), rfl, by rw [la.length]; simpa using hle⟩⟩
 obtain ⟨v, e3, e4⟩ := la.reverse.get hd
 have sq : SqT K H2 a xs := uT sf2 (uT t2 qa)
 refine ⟨⟨xs, v, sq, rfl, e3⟩, fun x H3 hy => ?_⟩
 obtain ⟨rfl, hy⟩ := hy
 have := hy xs sq
 rw [e3] at this
 cases this
 exact ⟨Hf2, Grows.refl sf2, e4.mono t2⟩
theorem D9 {p : Pos} (hg : Gl X "reversed") (hm : X.mg "reversed" = none) (he : DE X e f) (hs : starEach [e] X.env = [(false, eval e X.env)] := by rfl) : DI X tg (.Call (.Name "reversed" p) [e] [] pos) (JS f) := by
 intro pins s σ H R I h
 obtain ⟨H₀, Hf₀, ρ, Hf, ds', R0, q, k⟩ := h
 obtain ⟨d, q3, q4⟩ := z8 q
 refine Call_ (qc I hg hm boot_reversed (PyProof.Rows.callWith_type1 (thn ((z5 he xp hs) pos pins s σ H (fun vs H1 => ∃ v Hf1, vs = [v] /\ Rep X.K H₀ Hf₀ σ ρ H1 Hf1 /\ yo H H1 /\ yo Hf Hf1 /\ Has X.K Hf1 d v) I ⟨H₀, Hf₀, ρ, Hf, d, R0, q3, fun v H1 Hf1 R1 s1 t1 h1 => ⟨v, Hf1, rfl, R1, s1, t1, h1⟩⟩) fun us s1 ⟨vs, H1, I1, r1, q1⟩ => ?_) hs rfl))
 obtain ⟨v, Hf1, rfl, R1, s1', t1, h1⟩ := q1
 cases r1 with
 | cons r rr =>
  cases rr
  cases d <;> try cases q4
  obtain ⟨a, xs, rfl, qa, la⟩ := Has.tup_iff.mp h1
  cases r
  obtain ⟨its, rv, p, hz⟩ := I1.tuple (uT R1.sf qa)
  have hl := rv.length
  have hn := qK
  refine Up p (by rw [g0u, <- hl]; omega) ?_
  have e0 : ((its.toArray.size : Nat) : Int) - 1 = (xs.length : Int) - 1 - ((0 : Nat) : Int) := by rw [g0u, <- hl]; simp
  have hr : qZ (s1.heap.push { cls := .type "reversed", data := .fields #[.ref a, rawInt (((its.toArray.size : Nat) : Int) - 1)] }) s1.heap.objs.size a ((xs.length : Int) - 1 - ((0 : Nat) : Int)) := by
   rw [<- e0]; exact Heap.get?_push_size _ rfl
  have I2 : Inv X pins σ H1 { s1 with heap := s1.heap.push { cls := .type "reversed", data := .fields #[.ref a, rawInt (((its.toArray.size : Nat) : Int) - 1)] }, toks := s1.toks + 1 + 1 } := I1.kept fun b o e => Heap.get?_push_of_some _ e
  refine jN hr ⟨s1.heap.objs.size, [s1.heap.objs.size], _, _, H1, rfl, I2, KI a s1.heap.objs.size xs.length, hr, fun b hb => ?_, k _ _ _ R1 s1' t1 (QA qa la)⟩
  have e : b = s1.heap.objs.size := by simpa using hb
  rw [e]; exact Wa I1 (g0r _)
end
section
variable {X : Cx} {e : Expr} {f : FE} {pos : Pos} {tg : Expr}
theorem qg (he : DE X e f) : DI X tg e (yc f) := by
 intro pins s σ H R I h
 obtain ⟨H₀, Hf₀, ρ, Hf, ds, R0, q, k⟩ := h
 obtain ⟨d, q3, q4⟩ := z8 q
 refine thn (he pins s σ H (fun v H1 => ∃ Hf1, Rep X.K H₀ Hf₀ σ ρ H1 Hf1 /\ yo H H1 /\ yo Hf Hf1 /\ Has X.K Hf1 d v) I ⟨H₀, Hf₀, ρ, Hf, d, R0, q3, fun v H1 Hf1 R1 s1 t1 h1 => ⟨Hf1, R1, s1, t1, h1⟩⟩) fun u s1 ⟨v, H1, I1, r, Hf1, R1, s1', t1, h1⟩ => ?_
 cases d with
 | lst ds' =>
  cases q4
  obtain ⟨a, xs, rfl, qa, la⟩ := Has.lst_iff.mp h1
  cases r
  obtain ⟨its, rv, p, hz⟩ := I1.list (R1.sf.seq qa)
  refine wpAny_pyIter_list p.isList ?_
  refine ⟨s1.heap.objs.size, [s1.heap.objs.size], _, _, H1, rfl, I1.kept (t' := s1.toks) fun b o e => Heap.get?_push_of_some _ e, QD a _, ⟨_, Heap.get?_push_size _ rfl, rfl, rfl⟩, fun b hb => ?_, k _ _ _ R1 s1' t1 (Z3 qa la)⟩
  have e : b = s1.heap.objs.size := by simpa using hb
  subst e
  exact I1.fpOk (g0r _) (I1.hok.fresh (g0r _))
 | tup ds' =>
  cases q4
  obtain ⟨a, xs, rfl, qa, la⟩ := Has.tup_iff.mp h1
  cases r
  obtain ⟨its, rv, p, hz⟩ := I1.tuple (uT R1.sf qa)
  refine wpAny_pyIter_tuple (show s1.heap.IsTuple a its.toArray from p) ?_
  refine ⟨s1.heap.objs.size, [s1.heap.objs.size], _, _, H1, rfl, I1.kept (t' := s1.toks) fun b o e => Heap.get?_push_of_some _ e, Uz a _, ⟨_, Heap.get?_push_size _ rfl, rfl, rfl⟩, fun b hb => ?_, k _ _ _ R1 s1' t1 (Xt qa la)⟩
  have e : b = s1.heap.objs.size := by simpa using hb
  subst e
  exact I1.fpOk (g0r _) (I1.hok.fresh (g0r _))
 | _ => cases q4
end
def kr (k : NameKind) : Option NameKind -> Bool
 | some k' => k' == k
 | none => false
def HG (osc scope : Scope) (frees : List Str) : Bool :=
 scope.kind == .function && scope.names.all (fun y => !(y.2 == .cell)) && scope.names.all (fun y => !(y.2 == .local) || kr .local (scope.names.lookup y.1)) &&
 scope.names.all (fun y => !(y.2 == .free) || (kr .cell (osc.names.lookup y.1) || kr .free (osc.names.lookup y.1))) &&
 frees.all (fun x => (kr .cell (osc.names.lookup x) || kr .free (osc.names.lookup x)) && kr .free (scope.names.lookup x))
theorem ur {k : NameKind} {o : Option NameKind} (h : kr k o = true) : o = some k := by
 unfold kr at h
 split at h
 ·rw [eq_of_beq h]
 ·cases h
theorem CompScope.of {osc scope : Scope} {own frees : List Str} (h : HG osc scope frees = true) : CompScope osc scope own frees := by
 unfold HG at h
 simp only [g2y, List.all_eq_true] at h
 obtain ⟨⟨⟨⟨h1, h2⟩, h3⟩, h4⟩, h5⟩ := h
 refine ⟨eq_of_beq h1, fun y hy z => ?_, fun y hy z => ?_, fun y hy z => ?_, fun x hx => ?_⟩
 ·have := h2 y hy
  rw [z] at this
  simp at this
 ·have := h3 y hy
  rw [z] at this
  simp at this
  exact ur this
 ·have := h4 y hy
  rw [z] at this
  simp at this
  exact this.imp ur ur
 ·have := h5 x hx
  exact ⟨(by simpa using this.1 : _ \/ _).imp ur ur, ur this.2⟩
section
variable {X : Cx} {scope : Scope} {own frees : List Str} {caps : List Nat}
theorem Rep.lstFrz {K : W.Frag} {H₀ Hf₀ : Hp} {σ : St} {ρ : Rho} {H Hf H' Hf' : Hp} {a : Addr} {xs : List V} (R : Rep K H₀ Hf₀ σ ρ H Hf) (R' : Rep K H₀ Hf₀ σ ρ H' Hf') (ha : H' a = some (.lst xs)) (hn : Hf' a = none) (hh : H a = none) : Rep K H₀ Hf₀ σ ρ H' (upd Hf' a (.lst xs)) := by
 have sm : yo Hf' (upd Hf' a (.lst xs)) := zM hn
 refine ⟨R'.s0, fun b u z => ?_, fun b u z => ?_, R'.f0.trans sm, R'.len, fun i d z => ?_, fun i sl z o => ?_, R'.inj⟩
 ·by_cases hb : b = a
  ·subst hb; rw [zz] at z; cases z; exact ha
  ·rw [zE hb] at z; exact R'.sf b u z
 ·by_cases hb : b = a
  ·subst hb; exact .inr (.inl (R.s0.free hh))
  ·rw [zE hb] at z; exact R'.nf b u z
 ·obtain ⟨v, p1, p2⟩ := R'.fr i d z
  exact ⟨v, p1, p2.mono sm⟩
 ·obtain ⟨b, p1, p2, p3, p4⟩ := R.ow i sl z o
  obtain ⟨b', r1, r2, r3, r4⟩ := R'.ow i sl z o
  rw [p1] at r1; cases r1
  refine ⟨b, p1, r2.mono (fun u q => q) sm, ?_, r4⟩
  rw [zE]
  ·exact r3
  ·rintro rfl
   obtain ⟨o', q'⟩ := p2.there o
   rw [q'] at hh; cases hh
theorem jY {tg elt iter : Expr} {ifs : List Expr} {y : Str} {py pos spos : Pos} {fi : FA} {γ : FG} {ft : FT} {f : FE} (i : Nat) (hN : X.N.Nodup) (hc : X.calm = true) (S : CompScope X.env.scope scope own frees) (hcap : caps.map (fun j => X.N[j]?) = frees.map some) (kn : qY γ) (hi : DI X tg iter fi)
  (body : ∀ cl C s H fp, DG (cxC X scope cl C (own ++ frees) s H fp) tg γ /\ DQ (cxC X scope cl C (own ++ frees) s H fp) ifs ft /\ DE (cxC X scope cl C (own ++ frees) s H fp) elt f)
  (hsw : swapsWith (.ListComp elt [⟨tg, iter, ifs, 0⟩] scope pos) (some (.Name y py)) spos.line X.env = pure true := by rfl) (hiN : X.N[i]? = some y := by rfl) (hy : X.env.scope.names.lookup y = some .local := by rfl)
  (hs : ∀ x, foldedSetIterable iter X.env x = pure x := by intro _; rfl) : DS X (.Assign [.Name y py] (.ListComp elt [⟨tg, iter, ifs, 0⟩] scope pos) spos) (xb i (yI (qi own.length caps fi γ ft f))) :=
 kl (Uu hc S hcap kn hi body hsw i hN hiN hy hs) fun D' σ H ⟨H₀, Hf₀, ρ, Hf, o, R, q, k⟩ => by
  obtain ⟨d, e1, e2⟩ := z8 q
  cases e2
  unfold yI at e1
  cases e3 : qi own.length caps fi γ ft f ρ with
  | none => rw [e3] at e1; cases e1
  | some ds =>
   rw [e3] at e1
   cases e1
   refine ⟨H₀, Hf₀, ρ, Hf, ds, R, e3, fun a xs H1 Hf1 R1 s1 t1 h1 ha hn hh => ?_⟩
   have sm : yo Hf1 (upd Hf1 a (.lst xs)) := zM hn
   exact k _ _ _ ((R.lstFrz R1 ha hn hh).set i (Has.lst_iff.mpr ⟨a, xs, rfl, SqL.of zz, h1.mono sm⟩)) (t1.trans sm)
end
inductive GEnt (K : W.Frag) : List DictEntry -> List (Int × D) -> Prop
 | nil : GEnt K [] []
 | cons {k : Int} {t : Tok} {u : Value} {v : V} {d : D} {es : List DictEntry} {kvs : List (Int × D)} : hashInt k = k -> xU v u -> Has K (fun _ => none) d v -> GEnt K es kvs -> GEnt K (⟨k, .int k t, u⟩ :: es) ((k, d) :: kvs)
theorem GEnt.vals {K : W.Frag} : ∀ {es : List DictEntry} {kvs : List (Int × D)}, GEnt K es kvs -> ∃ vs : List (Int × Value), (∀ P w, (∀ e ∈ es, ∃ k, (intKind P w).is k e.key = true /\ e.hash = (intKind P w).hash k) /\ Pairs (intKind P w) es vs) /\ vs.map (·.1) = kvs.map (·.1) ∧
  ∀ k d, kvs.lookup k = some d -> ∃ u v, valueAt vs k = some u /\ xU v u /\ Has K (fun _ => none) d v
 | _, _, .nil => ⟨[], fun P w => ⟨fun e he => (by cases he), Pairs.nil⟩, rfl, fun k d e => (by simp at e)⟩
 | _, _, @GEnt.cons _ k t u v d es kvs hk r h g => by
  obtain ⟨vs, p1, p2, p3⟩ := g.vals
  have hi : Value.isInt k (.int k t) = true := by simp [Value.isInt]
  refine ⟨(k, u) :: vs, fun P w => ⟨fun e he => ?_, Pairs.cons hi rfl (p1 P w).2⟩, (by simp [p2]), fun k' d' e => ?_⟩
  ·rcases g0q.mp he with rfl | he
   ·exact ⟨k, hi, hk.symm⟩
   ·exact (p1 P w).1 e he
  ·rw [g1w] at e
   by_cases hkk : k' = k
   ·subst hkk
    simp at e
    subst e
    exact ⟨u, v, by simp [valueAt], r, h⟩
   ·have : (k' == k) = false := by simpa using hkk
    rw [this] at e
    obtain ⟨u', v', q1, q2, q3⟩ := p3 k' d' e
    refine ⟨u', v', ?_, q2, q3⟩
    unfold valueAt at q1 ⊢
    rw [List.find?_cons]
    have : decide (k = k') = false := by simpa using fun z : k = k' => hkk z.symm
    simp only [this]
    exact q1
theorem GL {K : W.Frag} {mg : Str -> Option Value} {x : Str} {kvs : List (Int × D)} {a : Addr} {es : List DictEntry} {ep : Nat} (h1 : mg x = some (.ref a)) (h2 : K.lookup a = some ⟨.type "dict", none, .dict es.toArray ep, #[]⟩) (g : GEnt K es kvs) (nd : (kvs.map (·.1)).Nodup) : GDict K mg x kvs := by
 obtain ⟨vs, p1, p2, p3⟩ := g.vals
 exact ⟨a, _, es.toArray, ep, vs, h1, h2, ⟨rfl, rfl, rfl⟩, rfl, fun P w => ⟨fun e he => (p1 P w).1 e (by simpa using he), (p1 P w).2⟩, by rw [p2]; exact nd, p3⟩
theorem qE {K : W.Frag} {ds : List D} {a : Addr} {xs : List V} {its : Array Value} {od : Option Addr} {n : Nat} {osl : Array (Option Value)} (h2 : K.lookup a = some ⟨.type "tuple", od, .seq its n, osl⟩) (hz : its.size <= sizeLine) (hv : xf xs its.toList) (hl : ya K (fun _ => none) ds xs) : Has K (fun _ => none) (.tup ds) (.ref a) :=
 Has.tup_iff.mpr ⟨a, xs, rfl, .inr ⟨_, its, n, h2, rfl, rfl, hz, hv⟩, hl⟩
section
variable {ρ : Rho} {i j k : Nat} {f g h : FE} {fa ga : FA} {ft gt ht : FT} {F G B : FS} {γ : FG} {δ : FGs} {d x y : D} {ds : List D}
@[simp] theorem yk : vF i ρ = (match ρ[i]? with | some (.fr d) => some d | _ => none) := rfl
@[simp] theorem MO : vR i ρ = (match ρ[i]? with | some (.fr d) => some d | some (.ol ds) => some (.lst ds) | _ => none) := rfl
@[simp] theorem xc : cF d ρ = some d := rfl
@[simp] theorem uY {φ : D -> Option D} : y0 φ f ρ = (f ρ).bind φ := rfl
@[simp] theorem zp {φ : D -> D -> Option D} : zc φ f g ρ = (f ρ).bind fun x => (g ρ).bind fun y => φ x y := rfl
@[simp] theorem zv : zu ρ = some [] := rfl
@[simp] theorem zm : zb f ga ρ = (f ρ).bind fun x => (ga ρ).bind fun xs => some (x :: xs) := rfl
@[simp] theorem x6 : tupF ga ρ = (ga ρ).bind fun xs => if xs.length <= sizeLine then some (.tup xs) else none := rfl
@[simp] theorem XF : Yi ga ρ = (ga ρ).bind fun xs => if xs.length <= sizeLine then some xs else none := rfl
@[simp] theorem xX : yI fa ρ = (fa ρ).map D.lst := rfl
@[simp] theorem yn : blF f ρ = (f ρ).bind fun | .bl b => some b | _ => none := rfl
@[simp] theorem MW : Vx ft gt ρ = (ft ρ).bind fun b => if b = true then gt ρ else some false := rfl
@[simp] theorem vK : orT ft gt ρ = (ft ρ).bind fun b => if b = true then some true else gt ρ := rfl
@[simp] theorem xK : WE ft ρ = (ft ρ).bind fun b => some (!b) := rfl
@[simp] theorem HV : ttF ρ = some true := rfl
@[simp] theorem VO : HH f g ρ = (f ρ).bind fun | .bl b => (if b = true then g ρ else some (.bl false)) | _ => none := rfl
@[simp] theorem MR : Mq f ρ = (f ρ).bind fun | .bl b => some (.bl (!b)) | _ => none := rfl
@[simp] theorem CV : ifF ft f g ρ = (ft ρ).bind fun b => if b = true then f ρ else g ρ := rfl
@[simp] theorem zD {φ : List D -> Option D} : zO φ fa ρ = (fa ρ).bind φ := rfl
@[simp] theorem zN : yh F G ρ = (F ρ).bind fun o => match o with | .nx ρ' => G ρ' | o => some o := rfl
@[simp] theorem x8 : nxF ρ = some (.nx ρ) := rfl
@[simp] theorem zR : yv f ρ = (f ρ).bind fun d => some (.rt d) := rfl
@[simp] theorem yH : ifS ft F G ρ = (ft ρ).bind fun b => if b = true then F ρ else G ρ := rfl
@[simp] theorem yj : xb i f ρ = (f ρ).bind fun d => some (.nx (ρ.set i (.fr d))) := rfl
@[simp] theorem XG : Cz i fa ρ = (fa ρ).bind fun ds => some (.nx (ρ.set i (.ol ds))) := rfl
@[simp] theorem QZ : DV i F ρ = (frz i ρ).bind F := rfl
@[simp] theorem HY : frz i ρ = (match ρ[i]? with | some (.ol ds) => some (ρ.set i (.fr (.lst ds))) | some (.fr _) => some ρ | _ => none) := rfl
@[simp] theorem yu : zJ i d ρ = some (ρ.set i (.fr d)) := rfl
@[simp] theorem jj : Yf [] ρ = some ρ := rfl
@[simp] theorem uE {r : List D} : yU γ δ (d :: r) ρ = (γ d ρ).bind fun ρ' => δ r ρ' := rfl
@[simp] theorem ji : ZT k δ (.tup ds) ρ = if ds.length = k then δ ds ρ else none := rfl
@[simp] theorem MP : Ny i j fa ρ = (fa ρ).bind fun l => match l with | [d, d'] => some (.nx ((ρ.set i (.fr d)).set j (.fr d'))) | _ => none := rfl
@[simp] theorem XH : qp i f ρ = (f ρ).bind fun d => match ρ[i]? with | some (.ol ds) => if ds.length < sizeLine then some (.nx (ρ.set i (.ol (ds ++ [d])))) else none | _ => none := rfl
@[simp] theorem xv : kF fa γ B ρ = (fa ρ).bind fun ds => yK γ B ds ρ := rfl
@[simp] theorem kI : qd f ρ = (yc f ρ).bind fun ds => some (wR ds) := rfl
@[simp] theorem KW : Ub f g ρ = (yc f ρ).bind fun xs => (yc g ρ).bind fun ys => some (Qp xs ys) := rfl
@[simp] theorem KY : JS f ρ = (f ρ).bind fun | .tup ds => some ds.reverse | _ => none := rfl
@[simp] theorem yB : yc f ρ = (f ρ).bind YE := rfl
@[simp] theorem XD : YE (.lst ds) = some ds := rfl
@[simp] theorem QY : YE (.tup ds) = some ds := rfl
@[simp] theorem XE : noP ρ = some none := rfl
@[simp] theorem YM : exP f ρ = (f ρ).bind fun | .int i => some (some i) | _ => none := rfl
@[simp] theorem w4 {l u : FP} : ym f l u ρ = (f ρ).bind fun x => (l ρ).bind fun lo => (u ρ).bind fun hi => match x with | .tup ds => some (.tup (jC ds lo hi)) | .lst ds => some (.lst (jC ds lo hi)) | _ => none := rfl
@[simp] theorem Ha : C1 f g ρ = (f ρ).bind fun x => (g ρ).bind fun y => match x, y with | .tup ds, .int i => if i = -1 then some (.tup ds.reverse) else none | .lst ds, .int i => if i = -1 then some (.lst ds.reverse) else none | _, _ => none := rfl
@[simp] theorem CS : Md f g ρ = (f ρ).bind fun x => (g ρ).bind fun y => match x, y with | .lst ds, .int i => if i = -1 then some ds.reverse else none | _, _ => none := rfl
@[simp] theorem HW : BP fa ρ = (fa ρ).bind fun l => match l with | [.lst ds] => some ds | [.tup ds] => some ds | _ => none := rfl
@[simp] theorem Q0 {n : Nat} {caps : List Nat} {fi : FA} : qi n caps fi γ ft f ρ = (fi ρ).bind fun ds => if ds.length <= sizeLine then xS γ ft f ds (vY n caps ρ) else none := rfl
@[simp] theorem HZ {n : Nat} {caps : List Nat} : vY n caps ρ = g0g n .no ++ caps.map (Fh ρ) := rfl
@[simp] theorem CW : Fh ρ j = (match ρ[j]? with | some (.fr d) => .fr d | _ => .no) := rfl
@[simp] theorem ue : YO fa ρ = (fa ρ).bind wV := rfl
@[simp] theorem CP : CZ fa ρ = (fa ρ).bind ki := rfl
theorem y8 {j : Int} (h1 : -1000000 <= j) (h2 : j <= 1000000) : wV [.int j] = some (zY 0 j) := by
 show @ite _ (-(2 ^ 62) <= j /\ j < 2 ^ 62) (Classical.propDecidable _) (some (zY 0 j)) none = _
 rw [if_pos (by omega)]
theorem XI {i j : Int} (h1 : -1000000 <= i) (h2 : i <= 1000000) (h3 : -1000000 <= j) (h4 : j <= 1000000) : ki [.int i, .int j] = some (zY i j) := by
 show @ite _ (-(2 ^ 62) <= i /\ i < 2 ^ 62 /\ -(2 ^ 62) <= j /\ j < 2 ^ 62) (Classical.propDecidable _) (some (zY i j)) none = _
 rw [if_pos (by omega)]
@[simp] theorem yy {φ ψ : D -> D -> Option D} : ql φ ψ f g h ρ = (f ρ).bind fun x => (g ρ).bind fun y => (φ x y).bind fun | .bl true => (h ρ).bind fun z => ψ y z | .bl false => some (.bl false) | _ => none := rfl
@[simp] theorem zP : vJ k F ds = Qq (F (ke k ds)) := rfl
@[simp] theorem z9 : Qq (some (.rt d)) = some d := rfl
@[simp] theorem MQ : Qq (some (.nx ρ)) = some .non := rfl
@[simp] theorem zt : ke k ds = ds.map Slot.fr ++ g0g (k - ds.length) Slot.no := rfl
variable {a b : Int}
@[simp] theorem QX : Ky (.int a) (.int b) = some (.int (a - b)) := rfl
@[simp] theorem qG : yV (.int a) (.int b) = some (.int (a + b)) := rfl
@[simp] theorem kC : ltD (.int a) (.int b) = some (.bl (decide (a < b))) := rfl
@[simp] theorem YK : leD (.int a) (.int b) = some (.bl (decide (a <= b))) := rfl
@[simp] theorem NK : gtD (.int a) (.int b) = some (.bl (decide (b < a))) := rfl
@[simp] theorem HX : geD (.int a) (.int b) = some (.bl (decide (b <= a))) := rfl
@[simp] theorem WV : qJ (.int a) = some (.int (-a)) := rfl
@[simp] theorem uo : eqF (.int a) (.int b) = some (.bl (decide (a = b))) := BZ
@[simp] theorem CT : neF (.int a) (.int b) = some (.bl (!decide (a = b))) := BF
@[simp] theorem Nr : isD k' .non .non = some (.bl (!k')) := rfl
@[simp] theorem KS : Hu [.int a, .int b] = some (.int (if b < a then b else a)) := rfl
@[simp] theorem KU : Hv [.int a, .int b] = some (.int (if b > a then b else a)) := rfl
@[simp] theorem Nt : Vj [.int a] = some (.int a) := rfl
@[simp] theorem CU {b : Bool} : Vj [.bl b] = some (.int (if b then 1 else 0)) := rfl
@[simp] theorem MU : WG [.lst ds] = some (.int ds.length) := rfl
@[simp] theorem MT : WG [.tup ds] = some (.int ds.length) := rfl
@[simp] theorem QW : je [.lst ds] = some (.tup ds) := rfl
@[simp] theorem Nq : je [.tup ds] = some (.tup ds) := rfl
@[simp] theorem MV {T : String} : Hy T d = some (.bl (WQ (tyN d) T)) := rfl
end
theorem w9 {n : Nat} {caps : List Nat} {fi : FA} {γ : FG} {ft : FT} {f : FE} {ρ : Rho} {ds : List D} (h : fi ρ = some ds) (hz : ds.length <= sizeLine) : qi n caps fi γ ft f ρ = xS γ ft f ds (vY n caps ρ) := by
 rw [Q0, h, g0a, if_pos hz]
theorem Qj {f : FE} {C : List Slot} {φ : Nat -> D} : ∀ (ds : List D) (n : Nat) (s : Slot), (∀ k d, ds[k]? = some d -> f (.fr d :: C) = some (φ (n + k))) -> xS (zJ 0) ttF f ds (s :: C) = some ((g1e ds.length).map fun k => φ (n + k))
 | [], _, _, _ => rfl
 | d :: ds, n, s, h => by
  have h0 := h 0 d rfl
  have ih := Qj (f := f) (C := C) (φ := φ) ds (n + 1) (.fr d) (fun k d' e => by rw [h (k + 1) d' (by simpa using e)]; congr 2; omega)
  unfold xS
  simp only [yu, g0h, g0a, HV, if_true, h0, ih, Nat.add_zero]
  rw [g0d, g2c, g0f, g1n]
  congr 3
  funext k
  simp only [Function.comp]
  congr 1
  omega
theorem Ck {f : FE} {C : List Slot} {φ : Nat -> D} : ∀ (ds : List D) (n : Nat) (s s' : Slot), (∀ k d, ds[k]? = some d -> ∃ x y, d = .tup [x, y] /\ f (.fr x :: .fr y :: C) = some (φ (n + k))) →
  xS (ZT 2 (yU (zJ 0) (yU (zJ 1) Yf))) ttF f ds (s :: s' :: C) = some ((g1e ds.length).map fun k => φ (n + k))
 | [], _, _, _, _ => rfl
 | d :: ds, n, s, s', h => by
  obtain ⟨x, y, rfl, h0⟩ := h 0 d rfl
  have ih := Ck (f := f) (C := C) (φ := φ) ds (n + 1) (.fr x) (.fr y) (fun k d' e => by
   obtain ⟨x', y', e1, e2⟩ := h (k + 1) d' (by simpa using e)
   exact ⟨x', y', e1, by rw [e2]; congr 2; omega⟩)
  unfold xS
  simp only [ji, uE, yu, jj, g0d, g0e, if_true, g0h, g0j, g0a, HV, h0, ih, Nat.add_zero]
  rw [g2c, g0f, g1n]
  congr 3
  funext k
  simp only [Function.comp]
  congr 1
  omega
theorem uP : fillsNumberSlot (.type "tuple") "mul" = pure false :=
 PySem.fillsNumberSlot_seq (id := "tuple.__mul__") (r := some (.builtin "tuple.__rmul__")) F.slot_tuple_mul.lookup (by decide +kernel) F.slot_tuple_rmul.lookup (by decide +kernel)
theorem kg : seqRepeat? (.type "tuple") = pure (some (.builtin "tuple.__mul__")) := by
 unfold seqRepeat?
 rw [PySem.seqSlot_of (T := "tuple") (name := "__mul__") (id := "tuple.__mul__") F.slot_tuple_mul.lookup (by decide +kernel), PySem.seqSlot_of (T := "tuple") (name := "__rmul__") (id := "tuple.__rmul__") F.slot_tuple_rmul.lookup (by decide +kernel)]
 rfl
open PySem.AutoSeq1 (wpAny_loadPart') in
theorem qM (a : Int) (t : Tok) (l : Addr) (items : Array Value) (n : Nat) (dd : Option Addr) (sl : Array (Option Value)) :
  Meets (Builtin.«int.__rmul__» ⟨[.int a t, .ref l], []⟩) (fun _ R s => s.heap.get? l = some { cls := .type "tuple", dict := dd, data := .seq items n, slots := sl } /\ R (.ok (.ret Value.notImplemented)) s) :=
 .of_wp fun prog w A R s h => by
  obtain ⟨hp, g, d, tk, os⟩ := s; obtain ⟨hl, h⟩ := h
  wp_walk using wpAny_loadPart' hl
  exact ⟨_, rfl, h⟩
open PySem.AutoSeq1 (wpAny_loadPart') in
theorem UC (l : Addr) (items : Array Value) (n : Nat) (dd : Option Addr) (sl : Array (Option Value)) (u : Tok) :
  Meets (Builtin.«tuple.__mul__» ⟨[.ref l, .int 1 u], []⟩) (fun _ R s => s.heap.get? l = some { cls := .type "tuple", dict := dd, data := .seq items n, slots := sl } /\ R (.ok (.ret (.ref l))) s) :=
 .of_wp fun prog w A R s h => by
  obtain ⟨hp, g, d, tk, os⟩ := s; obtain ⟨hl, h⟩ := h
  have f1 := AutoSeq1.idx_int
  wp_walk using wpAny_loadPart' hl
  exact ⟨_, rfl, h⟩
open PySem.AutoSeq1 (wpAny_loadPart') in
theorem UB (l : Addr) (items : Array Value) (n : Nat) (dd : Option Addr) (sl : Array (Option Value)) (k : Int) (u : Tok) (hne : items.isEmpty = false) (h2 : 2 <= k) (h3 : k < 2 ^ 63) (hsz : items.size * k.toNat <= sizeLine) :
  Meets (Builtin.«tuple.__mul__» ⟨[.ref l, .int k u], []⟩) (fun _ R s => s.heap.get? l = some { cls := .type "tuple", dict := dd, data := .seq items n, slots := sl } /\ R (.ok (.ret (.ref s.heap.objs.size))) { s with heap := s.heap.push { cls := .type "tuple", data := .seq (List.foldl (fun x1 x2 => x1 ++ x2) #[] (g0g k.toNat items)) } }) :=
 .of_wp fun prog w A R s h => by
  obtain ⟨hp, g, d, tk, os⟩ := s; obtain ⟨hl, h⟩ := h
  have f1 := AutoSeq1.idx_int
  wp_walk using wpAny_loadPart' hl
  have hk : ¬ (decide (k < -2 ^ 63) || decide (k ≥ 2 ^ 63)) = true := by
   rw [Bool.or_eq_true, decide_eq_true_eq, decide_eq_true_eq]
   omega
  rw [if_neg hk]
  show wpAny _ _ (Builtin.Tuple.tupleItemsOf (.ref l) >>= _) _ _ _
  refine wpAny_bind (tupleItemsOf_ (items := items) ⟨_, hl, rfl, n, rfl⟩ ?_)
  have h1 : ¬ (items.isEmpty || k == 1) = true := by
   rw [hne, Bool.false_or, beq_iff_eq]
   omega
  show wpAny _ _ (if (items.isEmpty || k == 1) = true then _ else _) _ _ _
  rw [if_neg h1]
  have h0 : ¬ (decide (k <= 0) || items.isEmpty) = true := by
   rw [hne, Bool.or_false, decide_eq_true_eq]
   omega
  show wpAny _ _ (if (decide (k <= 0) || items.isEmpty) = true then _ else _) _ _ _
  rw [if_neg h0]
  have hn : (items.size : Int) * k = ((items.size * k.toNat : Nat) : Int) := by
   rw [Int.natCast_mul, Int.toNat_of_nonneg (by omega)]
  have hl24 : sizeLine = 16777216 := sizeLine_eq
  have h4 : ¬ ((items.size : Int) * k > (2 ^ 63 - 1) / 8) := by rw [hn]; omega
  show wpAny _ _ (if (items.size : Int) * k > (2 ^ 63 - 1) / 8 then _ else _) _ _ _
  rw [if_neg h4]
  have h5 : ¬ (Builtin.Tuple.tupleTooMany ((items.size : Int) * k) = true) := by
   unfold Builtin.Tuple.tupleTooMany
   rw [decide_eq_true_eq, hn]
   omega
  show wpAny _ _ (if Builtin.Tuple.tupleTooMany ((items.size : Int) * k) = true then _ else _) _ _ _
  rw [if_neg h5]
  have hso : sizeOk (.seq (List.foldl (fun x1 x2 => x1 ++ x2) #[] (g0g k.toNat items))) := by
   show (List.foldl (fun x1 x2 => x1 ++ x2) #[] (g0g k.toNat items)).size <= sizeLine
   have gen : ∀ (m : Nat) (acc : Array Value), (List.foldl (fun x1 x2 => x1 ++ x2) acc (g0g m items)).size = acc.size + items.size * m := by
    intro m
    induction m with
    | zero => intro acc; simp
    | succ m ih => intro acc; rw [g1r, List.foldl_cons, ih, Array.size_append, Nat.mul_succ]; omega
   rw [gen]
   simpa using hsz
  exact wpAny_bind (m := Builtin.Tuple.tupleExact _) (wpAny_newObj_type (wpAny_pure ⟨_, rfl, h⟩) hso)
section
variable {X : Cx}
def C3 (K : W.Frag) : R2 := fun x y H Q => ∃ a k xs, x = .ref a /\ y = .int k /\ SqT K H a xs /\ xs ≠ [] /\ 1 <= k /\ xs.length * k.toNat <= sizeLine /\ (k = 1 -> Q (.ref a) H) /\ (k ≠ 1 -> ∀ p, H p = none -> Q (.ref p) (upd H p (.tup (g0g k.toNat xs).flatten)))
theorem Bp : OpR X (binaryOp .Mult) (C3 X.K) := by
 intro pins s σ H x y v u Q I rx ry h
 obtain ⟨a, k, xs, rfl, rfl, ha, hne, hk, hz, q1, q2⟩ := h
 cases rx
 obtain ⟨t, rfl⟩ := ry
 obtain ⟨its, r, p, hz'⟩ := I.tuple ha
 have hlen := r.length
 obtain ⟨⟨cls, dd, data, sl⟩, ho, hc, n, hd⟩ := id p
 simp only at hc hd
 subst hc hd
 by_cases h1 : k = 1
 ·subst h1
  exact wpAny_binaryOp_repeat_ref (T := "tuple") (U := "int") (by decide) ⟨_, ho, rfl⟩ (fun s' => typeIs_int s' 1 t) uP F.fills_int_mul F.slot_int_rmul kg F.slot_int_index.lookup
   (call_meets F.slot_int_rmul (typeIs_int s 1 t) F.entry_int_rmul (F.args_int_rmul_2 _ _) (qM 1 t a its.toArray n dd sl)
    ⟨ho, rfl, ⟨_, ho, rfl⟩, call_meets F.slot_tuple_mul ⟨_, ho, rfl⟩ F.entry_tuple_mul (F.args_tuple_mul_2 _ _) (UC a its.toArray n dd sl t) ⟨ho, .ref a, H, I, rfl, q1 rfl⟩⟩)
 ·have hsz : its.toArray.size * k.toNat <= sizeLine := by rw [g0u, <- hlen]; exact hz
  have hne' : its.toArray.isEmpty = false := by
   cases its with
   | nil => cases r; exact absurd rfl hne
   | cons _ _ => rfl
  have h63 : k < 2 ^ 63 := by
   have l1 : 1 <= xs.length := by
    cases xs with
    | nil => exact absurd rfl hne
    | cons _ _ => simp
   have l2 : k.toNat <= xs.length * k.toNat := Nat.le_mul_of_pos_left _ l1
   have : sizeLine = 16777216 := sizeLine_eq
   omega
  have hnew : List.foldl (fun x1 x2 => x1 ++ x2) #[] (g0g k.toNat its.toArray) = (g0g k.toNat its).flatten.toArray := by
   have := Wb its k.toNat []
   rw [g0n] at this
   exact this
  refine wpAny_binaryOp_repeat_ref (T := "tuple") (U := "int") (by decide) ⟨_, ho, rfl⟩ (fun s' => typeIs_int s' k t) uP F.fills_int_mul F.slot_int_rmul kg F.slot_int_index.lookup
   (call_meets F.slot_int_rmul (typeIs_int s k t) F.entry_int_rmul (F.args_int_rmul_2 _ _) (qM k t a its.toArray n dd sl)
    ⟨ho, rfl, ⟨_, ho, rfl⟩, call_meets F.slot_tuple_mul ⟨_, ho, rfl⟩ F.entry_tuple_mul (F.args_tuple_mul_2 _ _) (UB a its.toArray n dd sl k t hne' (by omega) h63 hsz) ⟨ho, ?_⟩⟩)
  rw [hnew]
  refine ⟨.ref s.heap.objs.size, _, I.laid (t' := s.toks) (o := .tup (g0g k.toNat xs).flatten) (fun b ob q => Heap.get?_push_of_some _ q) (g0r _) ?_, rfl, q2 h1 _ (I.hok.fresh (g0r _))⟩
  exact ⟨by rw [BQ, Nat.mul_comm]; exact hz, _, r.rep k.toNat, IsTup.new _ _⟩
def Gn : D -> D -> Option D
 | .int i, .int j => wJ (.int i) (.int j)
 | .tup (d :: ds), .int k => if 1 <= k /\ (ds.length + 1) * k.toNat <= sizeLine then some (.tup (g0g k.toNat (d :: ds)).flatten) else none
 | _, _ => none
theorem ya.rep {K : W.Frag} {H : Hp} {ds : List D} {xs : List V} (h : ya K H ds xs) : ∀ k : Nat, ya K H (g0g k ds).flatten (g0g k xs).flatten
 | 0 => .nil
 | k + 1 => by
  rw [g1r, g1r, g2l, g2l]
  exact h.append (ya.rep h k)
theorem Gc : OpD X (fun x y H Q => rI Qo (fun i j => .int (i * j)) x y H Q \/ C3 X.K x y H Q) Gn := by
 intro σ ρ H₀ Hf₀ H Hf x y dx dy d Q R hx hy hφ k
 unfold Gn at hφ
 split at hφ
 ·exact .inl (Jk σ ρ H₀ Hf₀ H Hf x y _ _ d Q R hx hy hφ k)
 ·split at hφ
  ·cases hφ
   rename_i e ds j hz
   obtain ⟨a, xs, rfl, qa, la⟩ := hx.tup R
   have hl := la.length
   refine .inr ⟨a, j, xs, rfl, hy.int, qa, fun z => ?_, hz.1, by rw [hl]; exact hz.2, fun e1 => ?_, fun e1 p hp => ?_⟩
   ·rw [z] at hl; simp at hl
   ·subst e1
    exact k _ _ _ R zB zB (by simpa using hx.tupF)
   ·have sm := zM (o := .tup (g0g j.toNat xs).flatten) (R.sf.free hp)
    exact k _ _ _ (R.lay hp) (zM hp) sm (Has.tup_iff.mpr ⟨p, _, rfl, SqT.of zz, (ya.rep la j.toNat).mono sm⟩)
  ·cases hφ
 ·cases hφ
theorem HD {a b : Expr} {f g : FE} {pos : Pos} (ha : DR X a f) (hb : DR X b g) : DE X (.BinOp a .Mult b pos) (zc Gn f g) := Cd (Jh.or Bp) Gc ha hb
@[simp] theorem MS {i j : Int} : Gn (.int i) (.int j) = wJ (.int i) (.int j) := rfl
end
theorem Wt : ∀ {bs : List Bool} {us : List Value}, xf (bs.map V.bl) us -> LSm.BoolsAre us bs
 | [], _, r => by cases r; exact .nil
 | b :: bs, _, r => by
  rw [g0f] at r
  cases r with
  | cons r1 r2 => cases r1; exact .cons b (Wt r2)
variable {X : Cx}
theorem G4 (hc : X.calm = true) : uN X (.builtin "all") (fun xs H Q => ∃ (p : Addr) (bs : List Bool), xs = [.ref p] /\ SqL X.K H p (bs.map V.bl) /\ Q (.bl (bs.all id)) H) := by
 intro pins s σ H xs us Q I r h
 obtain ⟨p, bs, rfl, hq, q⟩ := h
 obtain ⟨u, rfl, rx⟩ := WL r
 cases rx
 obtain ⟨its, r', pl, hz⟩ := I.list hq
 have hb := Wt r'
 have hl := pl.isList
 have hlt : p < s.heap.objs.size := by obtain ⟨_, e, _⟩ := hl; exact Heap.lt_size e
 refine call_all_walk (wpAny_pyIter_list hl ?_)
 refine ⟨s.heap.objs.size, [s.heap.objs.size, p], [s.heap.objs.size], its.toArray.size, _, _, fun i => (bs[i]?).getD true, rfl, PySem.Walks.list (A := X.A.in1) (I.ok.hd hc) _ p (g1g hlt) its.toArray,
  ⟨⟨_, Heap.get?_push_size _ rfl, rfl, rfl⟩, hl.push _⟩, fun i v s' Q' E' hP hQ => ?_, fun h' tk hk => ?_⟩
 ·obtain ⟨b, e, rfl⟩ := hb.get i v (by simpa using hP)
  simp only [e, g2z] at hQ
  exact wpAny_truthy_bool hQ
 ·have e : ((g1e its.toArray.size).all fun i => (bs[i]?).getD true) = bs.all id := by
   rw [g0u, hb.length]; exact LSm.range_all bs
  rw [e]
  exact ⟨.bl (bs.all id), H, I.kept (LSm.kept_iter hk), rfl, q⟩
def qm : List D -> Option (List Bool)
 | [] => some []
 | .bl b :: ds => (qm ds).map (b :: ·)
 | _ :: _ => none
theorem ya.bools {K : W.Frag} {H : Hp} : ∀ {ds : List D} {xs : List V} {bs : List Bool}, ya K H ds xs -> qm ds = some bs -> xs = bs.map V.bl
 | [], [], bs, h, e => by cases e; rfl
 | [], _ :: _, bs, h, e => by have := h.length; cases this
 | _ :: _, [], bs, h, e => by have := h.length; cases this
 | .bl b :: ds, x :: xs, bs, h, e => by
  unfold qm at e
  cases e' : qm ds with
  | none => rw [e'] at e; cases e
  | some cs =>
   rw [e'] at e
   cases e
   obtain ⟨_, _, e0, h1, h2⟩ := ya.cons_iff.mp h
   cases e0
   rw [Has.bl_iff.mp h1, ya.bools h2 e']
   rfl
 | .non :: _, _ :: _, _, _, e => by cases e
 | .int _ :: _, _ :: _, _, _, e => by cases e
 | .str _ :: _, _ :: _, _, _, e => by cases e
 | .tup _ :: _, _ :: _, _, _, e => by cases e
 | .lst _ :: _, _ :: _, _, _, e => by cases e
def FC : List D -> Option D
 | [.lst ds] => (qm ds).map fun bs => .bl (bs.all id)
 | _ => none
theorem BY : FnR X (fun xs H Q => ∃ (p : Addr) (bs : List Bool), xs = [.ref p] /\ SqL X.K H p (bs.map V.bl) /\ Q (.bl (bs.all id)) H) FC := by
 intro σ ρ H₀ Hf₀ H Hf xs ds d Q R hx hφ k
 unfold FC at hφ
 split at hφ
 ·obtain ⟨bs, e1, rfl⟩ := Option.map_eq_some_iff.mp hφ
  obtain ⟨v, rfl, hv⟩ := hx.one
  obtain ⟨a, ys, rfl, q, l⟩ := hv.lst R
  have := l.bools e1
  subst this
  exact ⟨a, bs, rfl, q, k _ _ _ R zB zB (Has.bl_iff.mpr rfl)⟩
 ·cases hφ
theorem ZJ : ∀ bs : List Bool, qm (bs.map D.bl) = some bs
 | [] => rfl
 | b :: bs => by rw [g0f, qm, ZJ bs]; rfl
@[simp] theorem Mc (bs : List Bool) : FC [.lst (bs.map D.bl)] = some (.bl (bs.all id)) := by show (qm (bs.map D.bl)).map _ = _; rw [ZJ]; rfl
theorem Jw : typeLookup (.type "reversed") "__len__" = pure none := by rw [typeLookup_type, builtinLookup_eq_fast]; kernel_rfl
theorem uz : PySem.Slot "reversed" "__length_hint__" "reversed.__length_hint__" :=
 .of (owner := "reversed") (n := "__length_hint__") (by rw [typeLookup_type, builtinLookup_eq_fast]; kernel_rfl) (by decide +kernel) (by decide +kernel) (by decide +kernel)
  (by first | exact .inl (by decide +kernel) | exact .inr (by decide +kernel)) (by rw [isSubtype_type]; kernel_rfl)
theorem ZX : entryFor table "reversed.__length_hint__" = some Builtin.«reversed.__length_hint__» := entryFor_of_tree (by kernel_rfl)
theorem Xf (a : Value) : argsOk "reversed.__length_hint__" ⟨[a], []⟩ := by
 unfold argsOk; rw [signature?_of (id := "reversed.__length_hint__") (n := "__length_hint__".toList.reverse) (o := ['d', 'e', 's', 'r', 'e', 'v', 'e', 'r']) (by kernel_rfl) Zm]; kernel_rfl
section
variable {prog : Program} {w : World} {A : Around} {E : Value -> Shared -> Prop} {s : Shared}
theorem Q4 (hh : A.handled = none) (r t : Addr) (hne : t ≠ r) (items : Array Value) (hz : items.size <= sizeLine) : WalksS prog w A r [r, t] [r] (fun a b => a = b) items.size (fun i v => items.toList.reverse[i]? = some v) (fun i s => qZ s.heap r t ((items.size : Int) - 1 - i) /\ IsTup s.heap t items) where
 sub := fun b hb => by simp at hb; simp [hb]
 grefl := fun _ => rfl
 gtrans := fun _ _ _ h h' => h.trans h'
 frame := fun i s h' tk st _ hk => ⟨hk r (by simp) _ st.1, by
  obtain ⟨o, ho, hc, n, hd⟩ := st.2
  exact ⟨o, hk t (by simp) o ho, hc, n, hd⟩⟩
 item := fun i s Q E hi st hQ => by
  obtain ⟨st, ht⟩ := st
  have hT : s.TypeIs (.ref r) "reversed" := ⟨_, st, rfl⟩
  have hk : ((items.size : Int) - 1 - i) = ((items.size - 1 - i : Nat) : Int) := by omega
  rw [hk] at st
  have hx : items[items.size - 1 - i]? = some items[items.size - 1 - i] := by simp
  unfold pyNext
  refine wpAny_bind (wpAny_attempt (wpAny_callSpecial?_slot (name := Str.ofString "__next__") hT yx (wpAny_call_entry yx hT wF
   (jl st ht hx hz fun h' st' sb => wpAny_pure ?_) (vb _))))
  refine hQ _ _ ?_ ⟨?_, ?_⟩ ⟨fun b o hb e => sb.2 b (by simpa using hb) ▸ e, rfl, rfl, rfl, Nat.le_succ _⟩
  ·rw [g2u (by simpa using hi)]
   simp
  ·have e : ((items.size : Int) - 1 - ((i + 1 : Nat) : Int)) = ((items.size - 1 - i : Nat) : Int) - 1 := by omega
   show qZ h' r t ((items.size : Int) - 1 - ((i + 1 : Nat) : Int))
   rw [e]
   exact st'
  ·obtain ⟨o, ho, hc, n, hd⟩ := ht
   exact ⟨o, (sb.2 t hne).trans ho, hc, n, hd⟩
 done := fun s Q E st hQ => by
  obtain ⟨st, ht⟩ := st
  have hT : s.TypeIs (.ref r) "reversed" := ⟨_, st, rfl⟩
  unfold pyNext
  refine wpAny_bind (wpAny_attempt (wpAny_callSpecial?_slot (name := Str.ofString "__next__") hT yx (wpAny_call_entry yx hT wF
   (ko (show A.in1.handled = none from hh) st (by omega) fun h' e eb ⟨o, ho, hcl⟩ => ?_) (vb _))))
  refine wpAny_bind (wpAny_isInstance (T := "StopIteration") (b := true) ⟨o, ho, hcl⟩ isSubtype_stop ?_)
  exact wpAny_pure (hQ _ ⟨fun b o hb e => eb b o (by simpa using hb) e, rfl, rfl, rfl, g0r _⟩)
 self := fun i s Q E st h => jN st.1 h
theorem GC {r t : Addr} {items : Array Value} {Q : Value -> Shared -> Prop} (hr : qZ s.heap r t ((items.size : Int) - 1)) (ht : IsTup s.heap t items) (hz : items.size <= sizeLine)
  (h : ∀ u tk, s.toks <= tk -> Q (.int (items.size : Int) u) { s with toks := tk }) : wpAny (model prog w) A (call (.builtin "reversed.__length_hint__") [.ref r]) Q E s := by
 have hn := qK
 have hT : s.TypeIs (.ref r) "reversed" := ⟨_, hr, rfl⟩
 refine wpAny_call_entry uz hT ZX ?_ (Xf _)
 show wpAny _ _ (field (.ref r) 0 >>= _) _ _ _
 refine wpAny_bind (wpAny_field hr rfl (x := .ref t) rfl ?_)
 show wpAny _ _ (if ((Value.ref t == Value.none) = true) then _ else _) _ _ _
 rw [if_neg (show ¬ ((Value.ref t == Value.none) = true) from g1q)]
 refine wpAny_bind (len_tuple ht (by omega) ?_)
 refine wpAny_bind (wpAny_of_eq (a := some (items.size : Int)) rfl ?_)
 try dsimp only
 refine wpAny_bind (wpAny_field (s := { s with toks := s.toks + 1 + 1 }) hr rfl (x := rawInt ((items.size : Int) - 1)) rfl ?_)
 show wpAny _ _ (if ((items.size : Int) < (items.size : Int) - 1 + 1) then _ else _) _ _ _
 rw [if_neg (by omega)]
 have e : (items.size : Int) - 1 + 1 = (items.size : Int) := by omega
 rw [e]
 exact wpAny_bind (wpAny_mkInt (wpAny_pure ⟨_, rfl, h _ _ (by show s.toks <= s.toks + 1 + 1 + 1; omega)⟩))
theorem Vu (hh : A.handled = none) {r t : Addr} (hne : t ≠ r) {items : Array Value} {Q : List Value -> Shared -> Prop} (hr : qZ s.heap r t ((items.size : Int) - 1)) (ht : IsTup s.heap t items) (hz : items.size <= sizeLine)
  (hQ : ∀ s', Moved [r] (fun a b => a = b) s s' -> Q items.toList.reverse s') : wpAny (model prog w) A (collect (.ref r)) Q E s := by
 have W := Q4 (prog := prog) (w := w) (A := A.in1) hh r t hne items hz
 have hst : (fun i (s : Shared) => qZ s.heap r t ((items.size : Int) - 1 - i) /\ IsTup s.heap t items) 0 s := ⟨by simpa using hr, ht⟩
 have hT : ∀ (s : Shared), qZ s.heap r t ((items.size : Int) - 1 - ((0 : Nat) : Int)) /\ IsTup s.heap t items -> s.TypeIs (.ref r) "reversed" := fun s st => ⟨_, st.1, rfl⟩
 have hfp : ∀ b ∈ [r, t], b < s.heap.objs.size := fun b hb => by
  simp only [g0q, List.not_mem_nil, or_false] at hb
  rcases hb with rfl | rfl
  ·exact Heap.lt_size hr
  ·obtain ⟨o, ho, _⟩ := ht; exact Heap.lt_size ho
 have hSf : s.heap.objs.size ∉ [r, t] := fun hm => g2w _ (hfp _ hm)
 have hSI : s.heap.objs.size ≠ r := fun e => hSf (by simp [e])
 unfold collect
 refine wpAny_bind (wpAny_runValue (codeAny_builtin F.entry_proto_collect ?_))
 rw [Around.under_plainId F.plain_proto_collect _]
 show wpAny _ A.in1 (newList [] >>= fun l => again (.builtin "list.__iadd__" ⟨[l, .ref r], []⟩)) _ _ s
 refine wpAny_bind (wpAny_newObj_type ?_)
 refine wpAny_pure ⟨plainId_quiet F.plain_list_iadd _, codeAny_builtin F.entry_list_iadd ?_⟩
 rw [Around.under_plainId F.plain_list_iadd _]
 have hst₁ := W.frame 0 s (s.heap.push { cls := .type "list", data := .seq ([] : List Value).toArray }) s.toks hst (g0r _) fun b _ o e => Heap.get?_push_of_some _ e
 have h1 : Builtin.List.listSameRef (.ref s.heap.objs.size) (.ref r) = false := by simp [Builtin.List.listSameRef, hSI]
 show wpAny _ A.in1 (Builtin.List.listExtendWith (.ref s.heap.objs.size) (.ref r) (.ref s.heap.objs.size)) _ _ _
 unfold Builtin.List.listExtendWith
 refine wpAny_bind (wpAny_typeOf (hT _ hst₁) ?_)
 rw [if_neg (by rw [h1]; decide)]
 refine wpAny_bind (W.self 0 _ _ _ hst₁ ?_)
 refine wpAny_bind (wpAny_holding ?_)
 unfold Builtin.List.listLengthHint
 refine wpAny_bind (wpAny_specialOf (hT _ hst₁) Jw ?_)
 show wpAny _ A.in1 (specialOf (Value.ref r) (Str.ofString "__length_hint__") >>= _) _ _ _
 refine wpAny_bind (wpAny_specialOf (hT _ hst₁) uz.lookup ?_)
 (generalize hid : ("reversed.__length_hint__" : String) = id0; (fail_if_success (clear hid id0)); wp_delta; rw [show splitId id0 = some ("reversed", "__length_hint__") from by subst hid; decide +kernel]; subst hid)
 refine wpAny_bind (wpAny_isInstance (b := true) (hT _ hst₁) (by rw [isSubtype_type]; kernel_rfl) ?_)
 show wpAny _ A.in1 (rule "list.length-hint.hint" >>= _) _ _ _
 refine wpAny_bind (wpAny_rule ?_)
 refine wpAny_bind (wpAny_of_eq (uz.bind _) ?_)
 try dsimp only
 refine wpAny_bind (wpAny_attempt (GC (items := items) (by simpa using hst₁.1) hst₁.2 hz fun u tk htk => ?_))
 have hn := qK
 have f1 : Builtin.List.listFitsIndex (items.size : Int) = true := by
  unfold Builtin.List.listFitsIndex
  rw [g2y, decide_eq_true_eq, decide_eq_true_eq]
  omega
 have f2 : Builtin.List.listTooLong ((items.size : Int)).toNat = false := by
  unfold Builtin.List.listTooLong
  rw [decide_eq_false_iff_not, Int.toNat_natCast]
  omega
 have f3 : ¬ ((items.size : Int) < 0) := by omega
 have f4 : ((items.size : Int) != 0) = decide (items.size ≠ 0) := by
  by_cases c : items.size = 0
  ·rw [c]; rfl
  ·have : (items.size : Int) ≠ 0 := by omega
   simp [c, this]
 generalize (items.size : Int) = kk at f1 f2 f3 f4
 refine wpAny_bind (m := asInt? (.int kk u)) (wpAny_pure ?_)
 dsimp only
 rw [if_neg (by rw [f1]; decide), if_neg f3, if_neg (by rw [f2]; decide)]
 refine wpAny_pure ?_
 rw [f4]
 have hst₂ := W.frame 0 _ _ tk hst₁ htk fun b _ o e => e
 have hS₁ : (s.heap.push { cls := .type "list", data := .seq ([] : List Value).toArray }).get? s.heap.objs.size = some { cls := .type "list", data := .seq ([] : List Value).toArray } := Heap.get?_push_size _ rfl
 have fin : ∀ acc : Array Value, ItemsOf (fun i v => items.toList.reverse[i]? = some v) acc items.size -> acc.toList = items.toList.reverse := fun acc ha => by
  apply g2o
  intro i
  by_cases hi : i < items.size
  ·have hi' : i < acc.size := by have := ha.1; omega
   have e1 : acc[i]? = some acc[i] := by simp [hi']
   rw [Array.getElem?_toList, e1]
   exact (ha.2 i _ e1).symm
  ·have l1 : acc.toList.length <= i := by have := ha.1; simp; omega
   have l2 : items.toList.reverse.length <= i := by simp; omega
   rw [g1d l1, g1d l2]
 by_cases c : items.size = 0
 ·have e0 : decide (items.size ≠ 0) = false := by simp [c]
  rw [e0]
  rw [if_neg (by decide)]
  refine wpAny_pure ⟨plainId_quiet F.plain_extend_loop _, codeAny_extend_loopS W hz _ hSf _ items.size 0 _ _ _ rfl (g2e _) hst₂ hS₁ (ItemsOf.nil _) fun s' acc' c' hm hS' hacc => ?_⟩
  show wpAny _ A (load s.heap.objs.size >>= _) _ _ s'
  refine wpAny_bind (wpAny_load hS' ?_)
  show wpAny _ A (pure acc'.toList) _ _ s'
  rw [fin acc' hacc]
  exact wpAny_pure (hQ s' (Moved.drop_new (o := { cls := .type "list", data := .seq ([] : List Value).toArray }) (tk := tk) hm htk))
 ·have e0 : decide (items.size ≠ 0) = true := by simp [c]
  rw [e0]
  show wpAny _ A.in1 (rule "list.extend.makes-room" >>= fun _ => Builtin.List.listTouch (.ref s.heap.objs.size) >>= fun _ =>
   again (.builtin "list.extend.loop" ⟨[.ref s.heap.objs.size, .ref r, .ref s.heap.objs.size], []⟩)) _ _ _
  refine wpAny_bind (wpAny_rule ?_)
  refine wpAny_bind ?_
  show wpAny _ A.in1 (updateSeq s.heap.objs.size (·.push .none) >>= fun _ => updateSeq s.heap.objs.size (·.pop)) _ _ _
  refine wpAny_bind (wpAny_updateSeq hS₁ rfl ?_)
  have hS₂ := Heap.get?_update_self (Obj.mapSeq (·.push Value.none)) hS₁ rfl
  refine wpAny_updateSeq hS₂ rfl ?_
  have hS₃ := Heap.get?_update_self (Obj.mapSeq (·.pop)) hS₂ rfl
  have oth : ∀ b o, b ≠ s.heap.objs.size -> (s.heap.push { cls := .type "list", data := .seq ([] : List Value).toArray }).get? b = some o →
    (((s.heap.push { cls := .type "list", data := .seq ([] : List Value).toArray }).update s.heap.objs.size (Obj.mapSeq (·.push Value.none))).update s.heap.objs.size (Obj.mapSeq (·.pop))).get? b = some o :=
   fun b o hb e => (Heap.get?_update_other _ _ (Ne.symm hb)).trans ((Heap.get?_update_other _ _ (Ne.symm hb)).trans e)
  refine wpAny_pure ⟨plainId_quiet F.plain_extend_loop _, codeAny_extend_loopS W hz _ hSf _ items.size 0 _ _ _ rfl (g2e _)
   (W.frame 0 ({ s with heap := s.heap.push { cls := .type "list", data := .seq ([] : List Value).toArray }, toks := tk } : Shared) _ tk hst₂ (g0r _) fun b hb o e => oth b o (fun h => hSf (h ▸ hb)) e) hS₃ (ItemsOf.nil _) fun s' acc' c' hm hS' hacc => ?_⟩
  show wpAny _ A (load s.heap.objs.size >>= _) _ _ s'
  refine wpAny_bind (wpAny_load hS' ?_)
  show wpAny _ A (pure acc'.toList) _ _ s'
  rw [fin acc' hacc]
  refine wpAny_pure (hQ s' (Moved.drop_new (o := { cls := .type "list", data := .seq ([] : List Value).toArray }) (tk := tk) (Moved.trans W.gtrans ((Moved.refl W.grefl).then_heap (g0r _) fun b o hb e => ?_) hm) htk))
  exact oth b o (fun h => hb (by rw [h]; exact g0s)) e
theorem jw {Q₁ : Value -> Shared -> Prop} (hh : A.handled = none) {r t : Addr} (hne : t ≠ r) {items : Array Value} (hr : qZ s.heap r t ((items.size : Int) - 1)) (ht : IsTup s.heap t items) (hz : items.size <= sizeLine)
  (h : ∀ s', Moved [r] (fun a b => a = b) s s' -> Q₁ (.ref s'.heap.objs.size) { s' with heap := s'.heap.push { cls := .type "tuple", data := .seq items.toList.reverse.toArray } }) :
  codeAny (model prog w) A (.call (.builtin "tuple.__new__") ⟨[.type "tuple", .ref r], []⟩) (wants Q₁ E) s := by
 refine codeAny_of_tree ?_
 show wpAny _ A.in1 (do checkBuiltinCall "tuple.__new__" ⟨[.type "tuple", .ref r], []⟩; again (.builtin "tuple.__new__" ⟨[.type "tuple", .ref r], []⟩)) _ _ s
 refine wpAny_bind (wpAny_of_eq (F.newCall_tuple_1 _) (wpAny_pure ⟨plainId_quiet F.plain_tuple_new _, codeAny_builtin F.entry_tuple_new ?_⟩))
 rw [Around.under_plainId F.plain_tuple_new _]
 have hsub := sub_tuple_self
 have hinit := init_tuple_lookup
 have hmh := madeHere_tuple
 have hTI : s.TypeIs (.ref r) "reversed" := ⟨_, hr, rfl⟩
 wp_walk using wpAny_typeOf hTI, Vu (show A.in1.handled = none from hh) hne hr ht hz
 intro s' hm
 show wpAny _ _ (Builtin.Tuple.tupleExact items.toList.reverse.toArray >>= fun v => ret v) _ _ _
 unfold Builtin.Tuple.tupleExact
 refine wpAny_bind (wpAny_newObj_type ?_ (by show items.toList.reverse.toArray.size <= sizeLine; simpa using hz))
 refine wpAny_pure ?_
 exact h s' hm
theorem Z0 {Q : Value -> Shared -> Prop} (hh : A.handled = none) {r t : Addr} (hne : t ≠ r) {items : Array Value} (hr : qZ s.heap r t ((items.size : Int) - 1)) (ht : IsTup s.heap t items) (hz : items.size <= sizeLine)
  (hQ : ∀ s', Moved [r] (fun a b => a = b) s s' -> Q (.ref s'.heap.objs.size) { s' with heap := s'.heap.push { cls := .type "tuple", data := .seq items.toList.reverse.toArray } }) :
  wpAny (model prog w) A (call (.type "tuple") [.ref r]) Q E s := by
 refine callType_codes (Q₁ := fun obj s₁ => s₁.TypeIs obj "tuple" /\ Q obj s₁) F.called_tuple (F.typeCall_tuple_1 _) F.entry_object_init
  (jw (A := A.in1) (show A.in1.handled = none from hh) hne hr ht hz fun s' hm => ⟨⟨_, Heap.get?_push_size _ rfl, rfl⟩, hQ s' hm⟩) fun obj s₁ h₁ => ?_
 exact ⟨h₁.1, F.args_object_init_2 obj _, object_init_meets F.called_tuple.init.lookup F.called_tuple.made (by decide) prog w A.in1 _ s₁ ⟨h₁.1, rfl, h₁.2⟩⟩
end
def Ft (f : FE) : FE := fun ρ => (f ρ).bind fun | .tup ds => some (.tup ds.reverse) | _ => none
@[simp] theorem CQ {f : FE} {ρ : Rho} : Ft f ρ = (f ρ).bind fun | .tup ds => some (.tup ds.reverse) | _ => none := rfl
theorem Vv : bootBuiltins "tuple" = some (.type "tuple") := by kernel_rfl
variable {X : Cx} {e : Expr} {f : FE} {pos : Pos}
theorem GV {p p2 pos2 : Pos} (hc : X.calm = true) (hgT : Gl X "tuple") (hmT : X.mg "tuple" = none) (hg : Gl X "reversed") (hm : X.mg "reversed" = none) (he : DE X e f) (hs : starEach [e] X.env = [(false, eval e X.env)] := by rfl)
  (hs2 : starEach [.Call (.Name "reversed" p2) [e] [] pos2] X.env = [(false, eval (.Call (.Name "reversed" p2) [e] [] pos2) X.env)] := by rfl) : DE X (.Call (.Name "tuple" p) [.Call (.Name "reversed" p2) [e] [] pos2] [] pos) (Ft f) := by
 intro pins s σ H Q I h
 obtain ⟨H₀, Hf₀, ρ, Hf, d', R0, q, k⟩ := h
 obtain ⟨d, q3, q4⟩ := z8 q
 refine wpAny_Call_Name_kw (qc I hgT hmT Vv (PyProof.Rows.callWith_type1 ?_ hs2 rfl))
 rw [hs2]
 refine Calls.spliced_cons (rest := []) ?_
 refine wpAny_Call_Name_kw (qc I hg hm boot_reversed (PyProof.Rows.callWith_type1 (thn ((z5 he xp hs) pos2 pins s σ H (fun vs H1 => ∃ v Hf1, vs = [v] /\ Rep X.K H₀ Hf₀ σ ρ H1 Hf1 /\ yo H H1 /\ yo Hf Hf1 /\ Has X.K Hf1 d v) I ⟨H₀, Hf₀, ρ, Hf, d, R0, q3, fun v H1 Hf1 R1 s1 t1 h1 => ⟨v, Hf1, rfl, R1, s1, t1, h1⟩⟩) fun us s1 ⟨vs, H1, I1, r1, q1⟩ => ?_) hs rfl))
 obtain ⟨v, Hf1, rfl, R1, s1', t1, h1⟩ := q1
 cases r1 with
 | cons r rr =>
  cases rr
  cases d <;> try cases q4
  obtain ⟨a, xs, rfl, qa, la⟩ := Has.tup_iff.mp h1
  cases r
  obtain ⟨its, rv, pt, hz⟩ := I1.tuple (uT R1.sf qa)
  have hl := rv.length
  have hn := qK
  refine Up pt (by rw [g0u, <- hl]; omega) ?_
  refine Calls.spliced_nil ?_
  have hlt : a < s1.heap.objs.size := by obtain ⟨o, ho, _⟩ := pt; exact Heap.lt_size ho
  have I2 : Inv X pins σ H1 { s1 with heap := s1.heap.push { cls := .type "reversed", data := .fields #[.ref a, rawInt (((its.toArray.size : Nat) : Int) - 1)] }, toks := s1.toks + 1 + 1 } := I1.kept fun b o e => Heap.get?_push_of_some _ e
  refine Z0 (I.ok.hd hc) (r := s1.heap.objs.size) (t := a) (items := its.toArray) (g1g hlt) (Heap.get?_push_size _ rfl) (by
   obtain ⟨o, ho, hcl, n, hd⟩ := pt
   exact ⟨o, Heap.get?_push_of_some _ ho, hcl, n, hd⟩) (by rw [g0u, <- hl]; exact hz) fun s' hm => ?_
  obtain ⟨h', g', d', tk', os'⟩ := s'
  obtain ⟨m1, m2, m3, m4, m5⟩ := hm
  simp only at m1 m2 m3 m4 m5
  subst m2 m3 m4
  have fr := Wa I1 (g0r s1.heap.objs.size)
  obtain ⟨f0, f1, f2, f3, f4, f5⟩ := fr
  have I3 : Inv X pins σ H1 { s1 with heap := h', toks := tk' } := I2.turned (t' := tk') (fun b o hb e => m1 b o (by simpa using hb) e) f0 f1 f3 f4 f5
  have I4 : Inv X pins σ (upd H1 h'.objs.size (.tup xs.reverse)) { s1 with heap := h'.push { cls := .type "tuple", data := .seq its.reverse.toArray }, toks := tk' } :=
   I3.laid (t' := tk') (fun b o e => Heap.get?_push_of_some _ e) (g0r _) (show qq X.prog X.w _ _ _ (.tup xs.reverse) from ⟨by simpa using hz, its.reverse, rv.reverse, IsTup.new _ _⟩)
  have hfree : H1 h'.objs.size = none := I3.hok.fresh (g0r _)
  have sm := zM (o := .tup xs.reverse) (R1.sf.free hfree)
  exact ⟨.ref h'.objs.size, _, I4, rfl, k _ _ _ (R1.lay hfree) (s1'.trans (zM hfree)) (t1.trans sm) (Has.tup_iff.mpr ⟨h'.objs.size, _, rfl, SqT.of zz, la.reverse.mono sm⟩)⟩
section
variable {X : Cx} {pins : List (Addr × Obj)} {σ : St} {H : Hp} {s : Shared}
end
section
variable {X : Cx} {o e : Expr} {f g : FE} {kk : Nat}
end
def Itd (lo : Int) (n : Nat) : It := ⟨fun i _ => i < n, fun i H x H' => H' = H /\ x = .int (lo - i), fun i _ => n <= i⟩
theorem QF {P : Program} {w : World} {K : W.Frag} {tg : Expr} (it : Addr) (lo : Int) (n : Nat) : Turn P w K tg (Itd lo n) [it] it (fun i h => IsRangeIter h it (lo + (i : Nat) * (-1)) ((n : Int) - (i : Nat)) (-1)) where
 mem := by simp
 obj := fun i h st b hb => by
  have e : b = it := by simpa using hb
  subst e
  exact ⟨_, st, fun v z => by
   have z' : Data.fields _ = Data.cell v := z
   cases z'⟩
 keep := fun i h h' st k => k it (by simp) _ st
 item := by
  intro X hP hw hK hc i pins s σ H E I hf st hg
  subst hP hw hK
  obtain ⟨f0, f1, f2, f3, f4, f5⟩ := hf it (by simp)
  have W := PySem.Walks.range (prog := X.prog) (w := X.w) (I.ok.hd hc) it lo (-1) n
  refine W.item i s _ _ hg st fun v h' tk hv st' kk => ?_
  obtain ⟨t, rfl⟩ := hv
  have I1 : Inv X pins σ H { s with heap := h', toks := tk } := I.turned (fun b o hb e => kk b o (by simpa using hb) e) f0 f1 f3 f4 f5
  refine ⟨_, rfl, J0 (s := { s with heap := h', toks := tk }) (n := "range_iterator") st' rfl rfl (by decide) ⟨.int (lo - i), H, I1, ⟨t, ?_⟩, ⟨rfl, rfl⟩, st', fun b hb => (hf b hb).1⟩⟩
  congr 1
  omega
 done := by
  intro X hP hw hK hc i pins s σ H E I hf st hg
  subst hP hw hK
  obtain ⟨f0, f1, f2, f3, f4, f5⟩ := hf it (by simp)
  exact wpAny_pyNext_range_end (I.ok.hd hc) st (by have : n <= i := hg; omega) fun h' eb => ⟨rfl, I.turned (t' := s.toks) (fun b o hb e => eb b o hb e) f0 f1 f3 f4 f5⟩
 self := fun _ _ _ _ _ st h => wpAny_pyIter_rangeiter st h
theorem qH (a b : Int) : Builtin.Range.rangeSize a b (-1) = (((a - b).toNat : Nat) : Int) := by
 unfold Builtin.Range.rangeSize
 rw [if_neg (by decide)]
 split
 ·have : -(-1 : Int) = 1 := rfl
  rw [this, Int.ediv_one]
  omega
 ·omega
theorem UD {a b : Int} (h1 : -1000000 <= a) (h2 : a <= 1000000) (h3 : -1000000 <= b) (h4 : b <= 1000000) : Builtin.Range.small a b (-1) = true := by
 unfold Builtin.Range.small
 rw [qH]
 simp only [Builtin.Range.rangeFitsLong, g2y, Bool.or_eq_true, decide_eq_true_eq, beq_iff_eq, show ¬ ((-1 : Int) > 0) by decide, if_false]
 omega
section
variable {X : Cx} {tg : Expr}
theorem Cb {pins : List (Addr × Obj)} {σ : St} {H : Hp} {s : Shared} {R : It -> Hp -> Prop} {E : Value -> Shared -> Prop} {lo hi : Int} {t u v : Tok} {tk : Nat} (I : Inv X pins σ H s) (h1 : -1000000 <= lo) (h2 : lo <= 1000000) (h3 : -1000000 <= hi) (h4 : hi <= 1000000)
  (q : R (Itd lo (lo - hi).toNat) H) : wpAny (model X.prog X.w) X.A (pyIter (.ref s.heap.objs.size)) (PIE X pins σ tg R) E { s with heap := s.heap.push { cls := .type "range", data := .fields #[.int lo t, .int hi u, .int (-1) v] }, toks := tk } := by
 refine wpAny_pyIter_range (IsRange.new ..) (UD h1 h2 h3 h4) ?_
 have I1 : Inv X pins σ H { s with heap := s.heap.push { cls := .type "range", data := .fields #[.int lo t, .int hi u, .int (-1) v] }, toks := tk } := I.kept fun b o e => Heap.get?_push_of_some _ e
 refine ⟨(s.heap.push { cls := .type "range", data := .fields #[.int lo t, .int hi u, .int (-1) v] }).objs.size, [(s.heap.push { cls := .type "range", data := .fields #[.int lo t, .int hi u, .int (-1) v] }).objs.size], _, _, H, rfl,
  I1.kept (t' := tk) fun b o e => Heap.get?_push_of_some _ e, QF _ lo (lo - hi).toNat, ?_, fun b hb => ?_, q⟩
 ·have e1 : lo + ((0 : Nat) : Int) * (-1) = lo := by simp
  have e2 : (((lo - hi).toNat : Nat) : Int) - ((0 : Nat) : Int) = Builtin.Range.rangeSize lo hi (-1) := by rw [qH]; omega
  show IsRangeIter _ _ (lo + ((0 : Nat) : Int) * (-1)) ((((lo - hi).toNat : Nat) : Int) - ((0 : Nat) : Int)) (-1)
  rw [e1, e2]
  exact Heap.get?_push_size _ rfl
 ·have e : b = (s.heap.push { cls := .type "range", data := .fields #[.int lo t, .int hi u, .int (-1) v] }).objs.size := by simpa using hb
  subst e
  exact I1.fpOk (g0r _) (I1.hok.fresh (g0r _))
def Ms (ta : TA) : TI := fun σ H R => ta σ H fun vs H1 => ∃ i j : Int, vs = [.int i, .int j, .int (-1)] /\ (-1000000 <= i /\ i <= 1000000 /\ -1000000 <= j /\ j <= 1000000) /\ R (Itd i (i - j).toNat) H1
theorem Jb {a b c : Expr} {ta : TA} {p pos : Pos} (hg : Gl X "range") (hm : X.mg "range" = none) (ha : PA X [a, b, c] ta) (hs : starEach [a, b, c] X.env = [(false, eval a X.env), (false, eval b X.env), (false, eval c X.env)] := by rfl) (hs2 : starEach [b, c] X.env = [(false, eval b X.env), (false, eval c X.env)] := by rfl) :
  PI X tg (.Call (.Name "range" p) [a, b, c] [] pos) (Ms ta) := by
 intro pins s σ H R I h
 refine Call_ (qc I hg hm boot_range (PyProof.Rows.callWith_type1 (thn (ha pos pins s σ H _ I h) fun us s1 ⟨vs, H1, I1, r1, q1⟩ => ?_) (by rw [hs, hs2]) (by rw [hs2]; rfl)))
 obtain ⟨i, j, e, ⟨q1, q2, q3, q4⟩, q⟩ := q1
 subst e
 cases r1 with
 | cons r rr =>
  cases rr with
  | cons r' rr =>
   cases rr with
   | cons r'' rr =>
    cases rr
    obtain ⟨t, rfl⟩ := r
    obtain ⟨t', rfl⟩ := r'
    obtain ⟨t'', rfl⟩ := r''
    exact call_range_3 (by decide) (Cb I1 q1 q2 q3 q4 q) (Or.inl (PyProof.noPylong_small (by decide)))
def Wi (hi lo : Int) : List D := (g1e (hi - lo).toNat).map fun (k : Nat) => D.int (hi - (k : Int))
def VQ : List D -> Option (List D)
 | [.int i, .int j, .int k] => if k = -1 /\ -1000000 <= i /\ i <= 1000000 /\ -1000000 <= j /\ j <= 1000000 then some (Wi i j) else none
 | _ => none
theorem Q6 {i j : Int} (h1 : -1000000 <= i) (h2 : i <= 1000000) (h3 : -1000000 <= j) (h4 : j <= 1000000) : VQ [.int i, .int j, .int (-1)] = some (Wi i j) := if_pos ⟨rfl, h1, h2, h3, h4⟩
theorem Ux {K : W.Frag} {Hf : Hp} {lo : Int} {n : Nat} : Walks K Hf (Itd lo n) ((g1e n).map fun (k : Nat) => D.int (lo - (k : Int))) := fun H2 Hf2 t2 sf2 i => by
 refine ⟨fun d hd => ?_, fun hle => ?_⟩
 ·rw [g0w] at hd
  cases e : (g1e n)[i]? with
  | none => rw [e] at hd; cases hd
  | some j =>
   rw [e] at hd
   cases hd
   obtain ⟨h1, h2⟩ := g0y.mp e
   simp at h1 h2
   subst h2
   refine ⟨h1, fun x H3 hy => ?_⟩
   obtain ⟨rfl, rfl⟩ := hy
   exact ⟨Hf2, Grows.refl sf2, Has.int_iff.mpr rfl⟩
 ·show n <= i
  simpa using hle
end
section
variable {X : Cx} {a b c dd : Expr} {f g h i4 : FE} {pos p2 : Pos}
end
section
variable {X : Cx} {e : Expr} {f : FE} {pos : Pos}
end
section
variable {X : Cx} {e : Expr} {f : FE}
end
section
variable {prog : Program} {w : World} {A : Around} {E : Value -> Shared -> Prop} {s : Shared}
end
section
variable {P : Program} {w : World} {K : W.Frag} {J1 J2 : It} {fp1 fp2 : List Addr} {i1 i2 z TI TO : Addr} {tn1 tn2 : Nat -> Heap -> Prop}
end
section
variable {prog : Program} {w : World} {A : Around} {E : Value -> Shared -> Prop} {s : Shared}
end
section
variable {X : Cx} {e1 e2 : Expr} {f1 f2 : FE} {pos : Pos} {elts : List Expr} {kx : Nat} {tp : Pos}
end
section
variable {X : Cx} {e : Expr} {pos : Pos}
end
section
variable {X : Cx}
end
section
variable {prog : Program} {w : World} {A : Around} {E : Value -> Shared -> Prop} {s : Shared}
end
section
variable {X : Cx} {e st : Expr} {f fs : FE} {pos p2 : Pos}
end
section
variable {O : KeyOrd} {n : Nat} {key : Nat -> O.α}
open KeyOrd
end
open PySem.AutoSeq1 (wpAny_loadPart')
open PySem.MeetsSeq PySem.MeetsSeq2 PySem.MeetsSeq3
section
variable {prog : Program} {w : World} {A : Around} {E : Value -> Shared -> Prop} {s : Shared}
end
section
variable {X : Cx} {pins : List (Addr × Obj)} {σ : St} {H : Hp} {s : Shared} {A : Around}
end
section
variable {X : Cx} {pins : List (Addr × Obj)} {σ : St} {H : Hp} {s : Shared}
end
section
variable {X : Cx} {e : Expr} {pos : Pos} {kk : Nat}
end
section
variable {α : Type} {P : List α -> Prop}
theorem NH (k : P []) : ∀ us : List α, us.length = 0 -> P us
 | [], _ => k
theorem Qt (k : ∀ a, P [a]) : ∀ us : List α, us.length = 1 -> P us
 | a :: us, h => NH (P := fun us => P (a :: us)) (k a) us (Nat.succ.inj h)
theorem Ys (k : ∀ a b, P [a, b]) : ∀ us : List α, us.length = 2 -> P us
 | a :: us, h => Qt (P := fun us => P (a :: us)) (k a) us (Nat.succ.inj h)
theorem WA (k : ∀ a b c, P [a, b, c]) : ∀ us : List α, us.length = 3 -> P us
 | a :: us, h => Ys (P := fun us => P (a :: us)) (k a) us (Nat.succ.inj h)
theorem Na (k : ∀ a b c d, P [a, b, c, d]) : ∀ us : List α, us.length = 4 -> P us
 | a :: us, h => WA (P := fun us => P (a :: us)) (k a) us (Nat.succ.inj h)
theorem NG (k : ∀ a b c d e, P [a, b, c, d, e]) : ∀ us : List α, us.length = 5 -> P us
 | a :: us, h => Na (P := fun us => P (a :: us)) (k a) us (Nat.succ.inj h)
end
section
variable {X : Cx} {pos : Pos} {kk : Nat}
end
section
variable {prog : Program} {w : World} {A : Around} {E : Value -> Shared -> Prop} {s : Shared}
end
section
variable {K : W.Frag} {H₀ Hf₀ : Hp} {σ : St} {ρ : Rho} {H Hf : Hp}
end
section
variable {X : Cx} {pos : Pos} {body : List Stmt} {γ : FG} {B : FS}
end
section
variable {X : Cx} {pos : Pos} {kk : Nat}
end
section
variable {X : Cx}
variable {a b c e : Expr} {f g h : FE} {pos p2 : Pos}
end
section
variable {X : Cx} {e : Expr} {f : FE} {pos : Pos} {tg : Expr}
end
section
variable {X : Cx} {o e : Expr} {f g : FE} {kk : Nat}
end
section
variable {X : Cx}
end
abbrev FJ := Rho -> Option (List Str)
section
variable {X : Cx} {e : Expr} {es : List Expr} {f : FE} {fj : FJ} {pos p2 : Pos}
end
theorem Fy : ¬ (("house" : Str) = "word") := by decide +kernel
theorem M8 : ¬ (("house" : Str) = "moves") := by decide +kernel
theorem M7 : ¬ (("word" : Str) = "moves") := by decide +kernel
def Wc (vh vw : V) (l : Addr) : List (Str × V) := kj "moves" (.ref l) (kj "word" vw (kj "house" vh []))
theorem Vo (vh vw : V) (l : Addr) : Wc vh vw l = ([("house", vh), ("word", vw), ("moves", .ref l)] : List (Str × V)) := by
 unfold Wc
 show kj "moves" (.ref l) (if ("house" : Str) = "word" then (("house" : Str), vw) :: [] else (("house" : Str), vh) :: kj "word" vw []) = _
 rw [if_neg Fy]
 show (if ("house" : Str) = "moves" then _ else (("house" : Str), vh) :: (if ("word" : Str) = "moves" then _ else (("word" : Str), vw) :: kj "moves" (.ref l) [])) = _
 rw [if_neg M8, if_neg M7]
 rfl
theorem My (vh vw : V) (l : Addr) : (Wc vh vw l).lookup ("house" : Str) = some vh := by
 unfold Wc
 rw [yC, if_neg M8, yC, if_neg Fy, yC, if_pos rfl]
theorem DZ (vh vw : V) (l : Addr) : (Wc vh vw l).lookup ("word" : Str) = some vw := by
 unfold Wc
 rw [yC, if_neg M7, yC, if_pos rfl]
theorem M9 (vh vw : V) (l : Addr) : (Wc vh vw l).lookup ("moves" : Str) = some (.ref l) := by
 unfold Wc
 rw [yC, if_pos rfl]
theorem Qd (vh vw : V) (l : Addr) {m : Str} (h1 : ¬ m = "moves") (h2 : ¬ m = "word") (h3 : ¬ m = "house") : (Wc vh vw l).lookup m = none := by
 unfold Wc
 rw [yC, if_neg h1, yC, if_neg h2, yC, if_neg h3]
 rfl
theorem D0 (vh vw v : V) (l : Addr) : kj "word" v (Wc vh vw l) = Wc vh v l := by
 rw [Vo, Vo]
 show (if ("house" : Str) = "word" then _ else (("house" : Str), vh) :: (if ("word" : Str) = "word" then (("word" : Str), v) :: _ else _)) = _
 rw [if_neg Fy, if_pos rfl]
structure WAt (K : W.Frag) (C p dx l : Addr) (H Hf : Hp) (hd wd : D) (ms : List D) : Prop where
 sf : yo Hf H
 ob : ∃ vh vw, H p = some (.ins C dx (Wc vh vw l)) /\ Has K Hf hd vh /\ Has K Hf wd vw
 li : ∃ xs, H l = some (.lst xs) /\ ya K Hf ms xs
 np : Hf p = none
 nl : Hf l = none
structure Chg (p l : Addr) (H Hf H' Hf' : Hp) : Prop where
 k : ∀ b o, H b = some o -> b ≠ p -> b ≠ l -> H' b = some o
 f : yo Hf Hf'
 nw : ∀ b o, Hf' b = some o -> Hf b = some o \/ H b = none \/ Tp o
section
variable {K : W.Frag} {C p dx l : Addr} {H Hf H' Hf' H2 Hf2 : Hp} {hd wd : D} {ms : List D}
theorem WAt.pl (A : WAt K C p dx l H Hf hd wd ms) : p ≠ l := by
 obtain ⟨_, _, h1, _⟩ := A.ob
 obtain ⟨_, h2, _⟩ := A.li
 exact Mr h1 h2 (by intro z; cases z)
theorem WAt.grows (A : WAt K C p dx l H Hf hd wd ms) (g : Grows H Hf H' Hf') : WAt K C p dx l H' Hf' hd wd ms := by
 obtain ⟨vh, vw, h1, h2, h3⟩ := A.ob
 obtain ⟨xs, h4, h5⟩ := A.li
 refine ⟨g.fh, ⟨vh, vw, g.h _ _ h1, h2.mono g.f, h3.mono g.f⟩, ⟨xs, g.h _ _ h4, h5.mono g.f⟩, ?_, ?_⟩
 ·cases z : Hf' p with
  | none => rfl
  | some o =>
   rcases g.new p o z with q | q | ⟨ks, q⟩
   ·rw [A.np] at q; cases q
   ·rw [h1] at q; cases q
   ·have := g.fh _ _ z
    rw [g.h _ _ h1, q] at this
    cases this
 ·cases z : Hf' l with
  | none => rfl
  | some o =>
   rcases g.new l o z with q | q | ⟨ks, q⟩
   ·rw [A.nl] at q; cases q
   ·rw [h4] at q; cases q
   ·have := g.fh _ _ z
    rw [g.h _ _ h4, q] at this
    cases this
theorem Chg.ofGrows (g : Grows H Hf H' Hf') : Chg p l H Hf H' Hf' := ⟨fun b o e _ _ => g.h b o e, g.f, g.new⟩
theorem Chg.trans (a : Chg p l H Hf H' Hf') (A : WAt K C p dx l H' Hf' hd wd ms) (b : Chg p l H' Hf' H2 Hf2) : Chg p l H Hf H2 Hf2 := by
 refine ⟨fun c o e h1 h2 => b.k c o (a.k c o e h1 h2) h1 h2, a.f.trans b.f, fun c o e => ?_⟩
 rcases b.nw c o e with q | q | q
 ·exact a.nw c o q
 ·refine .inr (.inl ?_)
  cases z : H c with
  | none => rfl
  | some u =>
   by_cases h1 : c = p
   ·subst h1
    obtain ⟨_, _, h, _⟩ := A.ob
    rw [h] at q; cases q
   ·by_cases h2 : c = l
    ·subst h2
     obtain ⟨_, h, _⟩ := A.li
     rw [h] at q; cases q
    ·rw [a.k c u z h1 h2] at q; cases q
 ·exact .inr (.inr q)
theorem WAt.setWord (A : WAt K C p dx l H Hf hd wd ms) {vh vw v : V} {wd' : D} (h1 : H p = some (.ins C dx (Wc vh vw l))) (h2 : Has K Hf hd vh) (hv : Has K Hf wd' v) :
  WAt K C p dx l (upd H p (.ins C dx (Wc vh v l))) Hf hd wd' ms /\ Chg p l H Hf (upd H p (.ins C dx (Wc vh v l))) Hf := by
 obtain ⟨xs, h4, h5⟩ := A.li
 refine ⟨⟨fun b o e => ?_, ⟨vh, v, zz, h2, hv⟩, ⟨xs, by rw [zE A.pl.symm]; exact h4, h5⟩, A.np, A.nl⟩, ⟨fun b o e hb _ => by rw [zE hb]; exact e, zB, fun _ _ e => .inl e⟩⟩
 rw [zE (fun z => by subst z; rw [A.np] at e; cases e)]
 exact A.sf b o e
theorem WAt.more (A : WAt K C p dx l H Hf hd wd ms) {xs : List V} {m : D} {v : V} (h1 : H l = some (.lst xs)) (h2 : ya K Hf ms xs) (hv : Has K Hf m v) :
  WAt K C p dx l (upd H l (.lst (xs ++ [v]))) Hf hd wd (ms ++ [m]) /\ Chg p l H Hf (upd H l (.lst (xs ++ [v]))) Hf := by
 obtain ⟨vh, vw, h3, h4, h5⟩ := A.ob
 refine ⟨⟨fun b o e => ?_, ⟨vh, vw, by rw [zE A.pl]; exact h3, h4, h5⟩, ⟨_, zz, h2.append (.cons hv .nil)⟩, A.np, A.nl⟩, ⟨fun b o e _ hb => by rw [zE hb]; exact e, zB, fun _ _ e => .inl e⟩⟩
 rw [zE (fun z => by subst z; rw [A.nl] at e; cases e)]
 exact A.sf b o e
inductive Sl (K : W.Frag) (Hf : Hp) : St -> Rho -> Prop
 | nil : Sl K Hf [] []
 | fr {d : D} {v : V} {σ : St} {ρ : Rho} : Has K Hf d v -> Sl K Hf σ ρ -> Sl K Hf (some v :: σ) (.fr d :: ρ)
 | no {o : Option V} {σ : St} {ρ : Rho} : Sl K Hf σ ρ -> Sl K Hf (o :: σ) (.no :: ρ)
theorem Sl.mono {σ : St} {ρ : Rho} (s : yo Hf Hf') (h : Sl K Hf σ ρ) : Sl K Hf' σ ρ := by
 induction h with
 | nil => exact .nil
 | fr a _ ih => exact .fr (a.mono s) ih
 | no _ ih => exact .no ih
theorem Sl.len {σ : St} {ρ : Rho} (h : Sl K Hf σ ρ) : ρ.length = σ.length := by
 induction h with
 | nil => rfl
 | fr _ _ ih => simp [ih]
 | no _ ih => simp [ih]
theorem Sl.get {σ : St} {ρ : Rho} (h : Sl K Hf σ ρ) : ∀ (i : Nat) (d : D), ρ[i]? = some (.fr d) -> ∃ v, σ[i]? = some (some v) /\ Has K Hf d v := by
 induction h with
 | nil => intro i d e; simp at e
 | fr a _ ih =>
  intro i d e
  cases i with
  | zero => simp at e; subst e; exact ⟨_, rfl, a⟩
  | succ i => exact ih i d (by simpa using e)
 | no _ ih =>
  intro i d e
  cases i with
  | zero => simp at e
  | succ i => exact ih i d (by simpa using e)
theorem Sl.own {σ : St} {ρ : Rho} (h : Sl K Hf σ ρ) : ∀ (i : Nat) (sl : FL.Slot), ρ[i]? = some sl -> sl.own = false := by
 induction h with
 | nil => intro i d e; simp at e
 | fr a _ ih =>
  intro i d e
  cases i with
  | zero => simp at e; subst e; rfl
  | succ i => exact ih i d (by simpa using e)
 | no _ ih =>
  intro i d e
  cases i with
  | zero => simp at e; subst e; rfl
  | succ i => exact ih i d (by simpa using e)
theorem Sl.rep {σ : St} {ρ : Rho} (sf : yo Hf H) (h : Sl K Hf σ ρ) : Rep K H Hf σ ρ H Hf where
 s0 := zB
 sf := sf
 nf := fun b o e => .inl e
 f0 := zB
 len := h.len
 fr := h.get
 ow := fun i sl e o => by rw [h.own i sl e] at o; cases o
 inj := fun i j sl sl' a e o => by rw [h.own i sl e] at o; cases o
theorem Rep.gr {σ : St} {ρ : Rho} (R : Rep K H Hf σ ρ H' Hf') : Grows H Hf H' Hf' := ⟨R.s0, R.f0, R.sf, R.nf⟩
end
theorem Vq {K : W.Frag} {f : FE} {σ : St} {ρ : Rho} {H Hf : Hp} {d : D} {Q : VK} (sf : yo Hf H) (h : Sl K Hf σ ρ) (e : f ρ = some d) (k : ∀ v H' Hf', Grows H Hf H' Hf' -> Has K Hf' d v -> Q v H') : tF K f σ H Q :=
 ⟨H, Hf, ρ, Hf, d, h.rep sf, e, fun v H' Hf' R _ _ hv => k v H' Hf' R.gr hv⟩
theorem Br {X : Cx} {r : R2} {φ : D -> D -> Option D} (hφ : OpD X r φ) {H Hf : Hp} {x y : V} {dx dy d : D} {Q : VK} (sf : yo Hf H) (hx : Has X.K Hf dx x) (hy : Has X.K Hf dy y) (e : φ dx dy = some d) (k : ∀ v H' Hf', Grows H Hf H' Hf' -> Has X.K Hf' d v -> Q v H') : r x y H Q := by
 have R := (Sl.nil (K := X.K) (Hf := Hf)).rep sf
 exact hφ [] [] H Hf H Hf x y dx dy d Q R (.inl hx) (.inl hy) e fun v H' Hf' R' _ _ hv => k v H' Hf' R'.gr hv
theorem Zy {K : W.Frag} {J : It} {ds : List D} {g : TG} {tb : TS} {D' : Ends} {σ : St} {H Hf : Hp} (hw : Walks K Hf J ds) (Pv : Nat -> St -> Hp -> Hp -> Prop) (h0 : Pv 0 σ H Hf) (hP : ∀ i σ H Hf2, Pv i σ H Hf2 -> yo Hf Hf2 /\ yo Hf2 H)
  (hs : ∀ i d σ H Hf2 x H3 Hf3, ds[i]? = some d -> Pv i σ H Hf2 -> Grows H Hf2 H3 Hf3 -> Has K Hf3 d x -> g x σ H3 fun σ2 H2 => tb { D' with nx := fun σ H => ∃ Hf, Pv (i + 1) σ H Hf, ct := fun σ H => ∃ Hf, Pv (i + 1) σ H Hf, bk := D'.nx } σ2 H2) (hd : ∀ σ H Hf2, Pv ds.length σ H Hf2 -> D'.nx σ H) :
  ∃ W : Nat -> Nat -> St -> Hp -> Prop, (∃ m, W 0 m σ H) /\ ∀ i m σ H, W i m σ H →
   (J.stop i H /\ D'.nx σ H) \/ (J.go i H /\ ∃ N : St -> Hp -> Prop, (∀ σ' H', N σ' H' -> ∃ m', m' < m /\ W (i + 1) m' σ' H') /\ ∀ x H', J.yld i H x H' -> g x σ H' fun σ2 H2 => tb { D' with nx := N, ct := N, bk := D'.nx } σ2 H2) := by
 refine ⟨fun i m σ H => m = ds.length - i /\ i <= ds.length /\ ∃ Hf2, Pv i σ H Hf2, ⟨ds.length, by simp, g2e _, Hf, h0⟩, ?_⟩
 rintro i m σ H ⟨rfl, hi, Hf2, p⟩
 obtain ⟨t2, sf2⟩ := hP i σ H Hf2 p
 obtain ⟨w1, w2⟩ := hw H Hf2 t2 sf2 i
 by_cases hlt : i < ds.length
 ·have hd' : ds[i]? = some ds[i] := g0z hlt
  obtain ⟨go, yld⟩ := w1 _ hd'
  refine .inr ⟨go, fun σ H => ∃ Hf, Pv (i + 1) σ H Hf, fun σ' H' p' => ⟨ds.length - (i + 1), by omega, rfl, hlt, p'⟩, fun x H' y => ?_⟩
  obtain ⟨Hf3, gr, hx⟩ := yld x H' y
  exact hs i _ σ H Hf2 x H' Hf3 hd' p gr hx
 ·have : i = ds.length := by omega
  subst this
  exact .inl ⟨w2 (g0r _), hd σ H Hf2 p⟩
section
variable (gA gT gI gS : List D -> Option D)
abbrev WS := D × List D
def doD (hd : D) (ws : WS) (mv : D) : Option WS := (gA [hd, ws.1, mv]).bind fun w' => if ws.2.length < sizeLine then some (w', ws.2 ++ [mv]) else none
def vW (f : D -> WS -> Option WS) : List D -> WS -> Option WS
 | [], ws => some ws
 | k :: ks, ws => (f k ws).bind (vW f ks)
noncomputable def wY (hd : D) : Nat -> WS -> D -> D -> Option WS
 | 0, _, _, _ => none
 | n + 1, ws, pd, md => (ixD ws.1 pd).bind fun fd => (eqF fd md).bind fun
  | .bl true => some ws
  | .bl false => (gT [hd, fd, md]).bind fun td => (gI [fd, md, td]).bind fun sd => (ki [.int 1, td]).bind fun ks =>
   (vW (fun k ws => (yV pd k).bind fun pk => (ixD sd k).bind fun sk => wY hd n ws pk sk) ks ws).bind fun ws' => doD gA hd ws' (.tup [.str "turn", pd, fd, md])
  | _ => none
noncomputable def kf (hd : D) (n : Nat) (k : D) (ws : WS) : Option WS := match ws.1, k with
 | .tup es, .int i => (gS [hd, .tup (jC es (some i) none)]).bind fun
  | .bl true => some ws
  | .bl false => (ixD ws.1 k).bind fun fd => (wY gA gT gI hd n ws (.int (i + 1)) fd).bind fun ws' => doD gA hd ws' (.tup [.str "drop", k])
  | _ => none
 | _, _ => none
noncomputable def Zb (hd : D) (n : Nat) (ws : WS) : Option WS := match ws.1 with
 | .tup ds => (VQ [.int ((ds.length : Int) - 1), .int (-1), .int (-1)]).bind fun ks => vW (kf gA gT gI gS hd n) ks ws
 | _ => none
theorem KM {hd : D} {n : Nat} {es : List D} {i : Int} {ms : List D} (h : gS [hd, .tup (jC es (some i) none)] = some (.bl true)) : kf gA gT gI gS hd n (.int i) (.tup es, ms) = some (.tup es, ms) := by
 unfold kf
 simp only [h]
 rfl
theorem KN {hd fd : D} {n : Nat} {es : List D} {i : Int} {ms : List D} {w1 w2 : WS} (h : gS [hd, .tup (jC es (some i) none)] = some (.bl false)) (h1 : ixD (.tup es) (.int i) = some fd) (h2 : wY gA gT gI hd n (.tup es, ms) (.int (i + 1)) fd = some w1) (h3 : doD gA hd w1 (.tup [.str "drop", .int i]) = some w2) :
  kf gA gT gI gS hd n (.int i) (.tup es, ms) = some w2 := by
 unfold kf
 simp only [h]
 show ((ixD (.tup es) (.int i)).bind fun fd => (wY gA gT gI hd n (.tup es, ms) (.int (i + 1)) fd).bind fun ws' => doD gA hd ws' (.tup [.str "drop", .int i])) = _
 rw [h1, g0a, h2, g0a, h3]
variable (gL : List D -> Option D)
noncomputable def X5 (hd : D) (n : Nat) (k : D) (ws : WS) : Option WS := match k with
 | .tup [pd, md] => wY gA gT gI hd n ws pd md
 | _ => none
noncomputable def DC (n : Nat) : List D -> Option D
 | [hd, wd] => (Zb gA gT gI gS hd n (wd, [])).bind fun ws => (gL [hd, wd]).bind fun ld => (YE ld).bind fun ds =>
  (vW (X5 gA gT gI hd n) (wR ds) ws).bind fun ws' => some (.lst ws'.2)
 | _ => none
end
section
variable {X : Cx} {pins : List (Addr × Obj)} {σ : St} {H : Hp} {s : Shared} {e : Value}
end
section
variable {X : Cx} {pins : List (Addr × Obj)} {σ : St} {H : Hp} {s : Shared}
end
end FL
namespace FL
open PySem PySem.Spec PySem.Calls PyProof.Rows L2
section
variable {prog : Program} {w : World} {A : Around} {E : Value -> Shared -> Prop} {s : Shared} {K : W.Frag} {a C : Addr}
end
end FL
namespace FL
open PySem PySem.Spec PyProof.Rows L2
inductive OutX where
 | o (x : Out)
 | ex (n : Str)
abbrev FSX := Rho -> Option OutX
section
variable {X : Cx} {E : XK} {c tg iter : Expr} {fi : FA} {ft : FT} {pos : Pos} {st : Stmt} {sts rest body : List Stmt} {F : FS} {G G1 G2 B : FSX} {γ : FG}
end
inductive RX where
 | v (d : D)
 | ex (n : Str)
section
variable {mg : Str -> Option Value} {K : W.Frag} {n : Nat} {g : List D -> Option RX} {vs : List V} {H Hf : Hp} {Q : VK} {E : XK} {ds : List D}
end
section
variable {X : Cx} {o e : Expr} {f g : FE} {kk : Nat}
end
section
variable {X : Cx} {o e : Expr} {f g : FE} {kk : Nat}
end
section
variable {prog : Program} {w : World} {A : Around} {E : Value -> Shared -> Prop} {s : Shared} {l : Addr} {xs : Array (Int × Tok)}
end
section
variable {X : Cx}
end
section
variable {X : Cx} {kk : Nat}
end
section
variable {X : Cx} {pins : List (Addr × Obj)} {σ : St} {H : Hp} {s : Shared} {A : Around}
end
section
variable {X : Cx} {e : Expr} {pos : Pos}
end
open PySem.AutoSeq1 (wpAny_loadPart')
section
variable {X : Cx} {e : Expr} {f g : FE} {pos : Pos}
end
section
variable {X : Cx} {e e2 : Expr} {f g : FE} {kk : Nat}
end
section
variable {X : Cx}
end
open PySem.AutoSeq1 (wpAny_loadPart')
open PySem.MeetsSeq PySem.MeetsSeq2 PySem.MeetsSeq3
section
variable {X : Cx} {pins : List (Addr × Obj)} {σ : St} {H : Hp} {s : Shared} {A : Around}
end
section
variable {X : Cx} {e : Expr} {pos : Pos} {kk : Nat}
end
end FL
namespace M02
def wsgn (n : Int) : Int := if 0 < n then 1 else if n < 0 then -1 else 0
def N (a b : Int) : Int := a * a + a * b - b * b
def sgn (a b : Int) : Int := if 0 <= wsgn a * wsgn b then wsgn (wsgn a + wsgn b) else wsgn a * wsgn (a * a + a * b - b * b)
def absI (i : Int) : Int := if i < 0 then -i else i
def lawSgn (a b : Int) : Int := if (2 * a + b = 0 /\ b = 0) then 0 else if 0 < (2 * a + b) * absI (2 * a + b) + 5 * b * absI b then 1 else 0 - 1
theorem ja {n : Int} (h : 0 < n) : wsgn n = 1 := by unfold wsgn; rw [if_pos h]
theorem jb {n : Int} (h : n < 0) : wsgn n = -1 := by unfold wsgn; rw [if_neg (by omega), if_pos h]
theorem wsgn_cases (n : Int) : (0 < n /\ wsgn n = 1) \/ (n < 0 /\ wsgn n = -1) \/ (n = 0 /\ wsgn n = 0) := by
 rcases Int.lt_trichotomy n 0 with h | h | h
 ·exact .inr (.inl ⟨h, jb h⟩)
 ·subst h; exact .inr (.inr ⟨rfl, rfl⟩)
 ·exact .inl ⟨h, ja h⟩
theorem Fq (x y : Int) : N (2 * x) (2 * y) = 4 * N x y := by
 unfold N
 have e1 : 2 * x * (2 * x) = 4 * (x * x) := by rw [Int.mul_assoc, Int.mul_left_comm x 2 x, <- Int.mul_assoc]; rfl
 have e2 : 2 * x * (2 * y) = 4 * (x * y) := by rw [Int.mul_assoc, Int.mul_left_comm x 2 y, <- Int.mul_assoc]; rfl
 have e3 : 2 * y * (2 * y) = 4 * (y * y) := by rw [Int.mul_assoc, Int.mul_left_comm y 2 y, <- Int.mul_assoc]; rfl
 rw [e1, e2, e3]
 omega
theorem XU {a b : Int} (ha : a % 2 = 1) (hb : b % 2 = 1) : (a * b) % 2 = 1 := by rw [Int.mul_emod, ha, hb]; rfl
theorem J8 {a : Int} (b : Int) (ha : a % 2 = 0) : (a * b) % 2 = 0 := by rw [Int.mul_emod, ha]; simp
theorem D3 (a : Int) {b : Int} (hb : b % 2 = 0) : (a * b) % 2 = 0 := by rw [Int.mul_emod, hb]; simp
theorem Qn : ∀ (n : Nat) (a b : Int), a.natAbs + b.natAbs = n -> N a b = 0 -> a = 0 /\ b = 0 := by
 intro n
 induction n using Nat.strongRecOn with
 | ind n ih =>
  intro a b hn h
  have h' : a * a + a * b - b * b = 0 := h
  have pa : a % 2 = 0 \/ a % 2 = 1 := by omega
  have pb : b % 2 = 0 \/ b % 2 = 1 := by omega
  rcases pa with pa | pa <;> rcases pb with pb | pb
  ·by_cases h0 : a = 0 /\ b = 0
   ·exact h0
   ·obtain ⟨x, rfl⟩ : ∃ x, a = 2 * x := ⟨a / 2, by omega⟩
    obtain ⟨y, rfl⟩ : ∃ y, b = 2 * y := ⟨b / 2, by omega⟩
    have hN := Fq x y
    rw [h] at hN
    have := ih (x.natAbs + y.natAbs) (by omega) x y rfl (by omega)
    omega
  ·have e1 := J8 a pa
   have e2 := J8 b pa
   have e3 := XU pb pb
   omega
  ·have e1 := XU pa pa
   have e2 := D3 a pb
   have e3 := J8 b pb
   omega
  ·have e1 := XU pa pa
   have e2 := XU pa pb
   have e3 := XU pb pb
   omega
theorem Fp {a b : Int} (h : N a b = 0) : a = 0 /\ b = 0 := Qn _ a b rfl h
def Pos (a b : Int) : Prop := (0 <= a /\ 0 <= b /\ (0 < a \/ 0 < b)) \/ (0 < a /\ b < 0 /\ 0 < N a b) \/ (a < 0 /\ 0 < b /\ N a b < 0)
theorem G7 (a b : Int) : N (-a) (-b) = N a b := by unfold N; rw [Int.neg_mul_neg, Int.neg_mul_neg, Int.neg_mul_neg]
theorem sgn_pos {a b : Int} (h : Pos a b) : sgn a b = 1 := by
 unfold sgn
 rcases h with ⟨h1, h2, h3⟩ | ⟨h1, h2, h3⟩ | ⟨h1, h2, h3⟩
 ·rcases wsgn_cases a with ⟨p, e⟩ | ⟨p, e⟩ | ⟨p, e⟩ <;> rcases wsgn_cases b with ⟨p', e'⟩ | ⟨p', e'⟩ | ⟨p', e'⟩ <;> rw [e, e'] <;> first | rfl | omega
 ·rw [ja h1, jb h2]
  have : a * a + a * b - b * b > 0 := h3
  rw [if_neg (by decide), ja this]; rfl
 ·rw [jb h1, ja h2]
  have : a * a + a * b - b * b < 0 := h3
  rw [if_neg (by decide), jb this]; rfl
theorem Yt (n : Int) : wsgn (-n) = -wsgn n := by
 rcases wsgn_cases n with ⟨p, e⟩ | ⟨p, e⟩ | ⟨p, e⟩
 ·rw [e, jb (by omega)]
 ·rw [e, ja (by omega)]; rfl
 ·subst p; rfl
theorem sgn_opp (a b : Int) : sgn (-a) (-b) = -sgn a b := by
 unfold sgn
 have e : -a * -a + -a * -b - -b * -b = a * a + a * b - b * b := G7 a b
 rw [e, Yt a, Yt b]
 have e2 : -wsgn a * -wsgn b = wsgn a * wsgn b := Int.neg_mul_neg _ _
 rw [e2]
 have e3 : -wsgn a + -wsgn b = -(wsgn a + wsgn b) := by omega
 rw [e3, Yt]
 split
 ·rfl
 ·exact Int.neg_mul _ _
theorem pos_cases (a b : Int) : (a = 0 /\ b = 0) \/ Pos a b \/ Pos (-a) (-b) := by
 by_cases h0 : a = 0 /\ b = 0
 ·exact .inl h0
 ·right
  have hN : N a b ≠ 0 := fun h => h0 (Fp h)
  by_cases ha : 0 <= a
  ·by_cases hb : 0 <= b
   ·exact .inl (.inl ⟨ha, hb, by omega⟩)
   ·by_cases a0 : a = 0
    ·exact .inr (.inl ⟨by omega, by omega, .inr (by omega)⟩)
    ·rcases Int.lt_or_lt_of_ne hN with hn | hn
     ·exact .inr (.inr (.inr ⟨by omega, by omega, by rw [G7]; exact hn⟩))
     ·exact .inl (.inr (.inl ⟨by omega, by omega, hn⟩))
  ·by_cases hb : 0 < b
   ·rcases Int.lt_or_lt_of_ne hN with hn | hn
    ·exact .inl (.inr (.inr ⟨by omega, hb, hn⟩))
    ·exact .inr (.inr (.inl ⟨by omega, by omega, by rw [G7]; exact hn⟩))
   ·exact .inr (.inl ⟨by omega, by omega, .inl (by omega)⟩)
theorem N_g (a b : Int) : N b (a + b) = -N a b := by
 unfold N
 have e1 : b * (a + b) = a * b + b * b := by rw [Int.mul_add, Int.mul_comm b a]
 have e2 : (a + b) * (a + b) = a * a + 2 * (a * b) + b * b := by rw [Int.add_mul, Int.mul_add, Int.mul_add, Int.mul_comm b a]; omega
 rw [e1, e2]; omega
theorem Xi {a b : Int} (h1 : 0 < a) (h2 : a + b <= 0) : N a b < 0 := by
 unfold N
 have e : a * a + a * b = a * (a + b) := by rw [Int.mul_add]
 have l1 : a * (a + b) <= 0 := Int.mul_nonpos_of_nonneg_of_nonpos (by omega) h2
 have l2 : 0 < b * b := Int.mul_pos_of_neg_of_neg (by omega) (by omega)
 omega
theorem G6 {a b : Int} (h1 : a < 0) (h2 : 0 <= a + b) (h3 : 0 < b) : N a b < 0 := by
 have := Xi (a := -a) (b := -b) (by omega) (by omega)
 rwa [G7] at this
theorem Mh {a b : Int} : Pos a b ↔ Pos b (a + b) := by
 unfold Pos
 rw [N_g]
 constructor
 ·rintro (⟨h1, h2, h3⟩ | ⟨h1, h2, h3⟩ | ⟨h1, h2, h3⟩)
  ·exact .inl ⟨h2, by omega, by omega⟩
  ·by_cases h : a + b <= 0
   ·have := Xi h1 h; omega
   ·exact .inr (.inr ⟨h2, by omega, by omega⟩)
  ·by_cases h : a + b < 0
   ·exact .inr (.inl ⟨h2, h, by omega⟩)
   ·exact .inl ⟨by omega, by omega, by omega⟩
 ·rintro (⟨h1, h2, h3⟩ | ⟨h1, h2, h3⟩ | ⟨h1, h2, h3⟩)
  ·by_cases h : 0 <= a
   ·exact .inl ⟨h, h1, by omega⟩
   ·exact .inr (.inr ⟨by omega, by omega, G6 (by omega) h2 (by omega)⟩)
  ·exact .inr (.inr ⟨by omega, h1, by omega⟩)
  ·exact .inr (.inl ⟨by omega, h1, by omega⟩)
def gpow : Nat -> Int × Int -> Int × Int
 | 0, x => x
 | n + 1, x => gpow n (x.2, x.1 + x.2)
theorem pos_gpow : ∀ (n : Nat) (x : Int × Int), Pos x.1 x.2 ↔ Pos (gpow n x).1 (gpow n x).2
 | 0, x => Iff.rfl
 | n + 1, x => (Mh (a := x.1) (b := x.2)).trans (pos_gpow n (x.2, x.1 + x.2))
def Cone (x : Int × Int) : Prop := 0 <= x.1 /\ 0 <= x.2 /\ (0 < x.1 \/ 0 < x.2)
theorem cone_pos {x : Int × Int} (h : Cone x) : Pos x.1 x.2 := .inl h
theorem gpow_add (m : Nat) : ∀ (n : Nat) (x : Int × Int), gpow m (gpow n x) = gpow (n + m) x
 | 0, x => by rw [g1t]; rfl
 | n + 1, x => by rw [Nat.succ_add]; exact gpow_add m n _
theorem kZ : ∀ (k : Nat) (a b : Int), a.natAbs <= k -> 0 < a -> b < 0 -> 0 < N a b -> ∃ n, Cone (gpow n (a, b)) := by
 intro k
 induction k with
 | zero => intro a b h1 h2; omega
 | succ k ih =>
  intro a b h1 h2 h3 h4
  have hs : 0 < a + b := by
   by_cases h : a + b <= 0
   ·have := Xi h2 h; omega
   ·omega
  by_cases hc : 0 <= a + 2 * b
  ·exact ⟨2, (show (0 : Int) <= a + b by omega), (show (0 : Int) <= b + (a + b) by omega), .inl hs⟩
  ·have hN : N (a + b) (b + (a + b)) = N a b := by rw [N_g, N_g]; omega
   obtain ⟨n, hn⟩ := ih (a + b) (b + (a + b)) (by omega) hs (by omega) (by omega)
   exact ⟨n + 2, hn⟩
theorem to_cone {a b : Int} (h : Pos a b) : ∃ n, Cone (gpow n (a, b)) := by
 rcases h with h | ⟨h1, h2, h3⟩ | ⟨h1, h2, h3⟩
 ·exact ⟨0, h⟩
 ·exact kZ _ a b (g0r _) h1 h2 h3
 ·by_cases h : 0 <= a + b
  ·exact ⟨1, (show (0 : Int) <= b by omega), h, .inl h2⟩
  ·obtain ⟨n, hn⟩ := kZ _ b (a + b) (g0r _) h2 (by omega) (by rw [N_g]; omega)
   exact ⟨n + 1, hn⟩
def Yg (x y : Int × Int) : Int × Int := (x.1 * y.1 + x.2 * y.2, x.1 * y.2 + x.2 * y.1 + x.2 * y.2)
theorem Dv (x y : Int × Int) : Yg (x.2, x.1 + x.2) y = ((Yg x y).2, (Yg x y).1 + (Yg x y).2) := by
 unfold Yg
 simp only [Int.add_mul, Prod.mk.injEq]
 omega
theorem XX (x y : Int × Int) : Yg x y = Yg y x := by
 unfold Yg
 have e1 := Int.mul_comm x.1 y.1
 have e2 := Int.mul_comm x.2 y.2
 have e3 := Int.mul_comm x.1 y.2
 have e4 := Int.mul_comm x.2 y.1
 simp only [Prod.mk.injEq]
 omega
theorem Zp : ∀ (n : Nat) (x y : Int × Int), Yg (gpow n x) y = gpow n (Yg x y)
 | 0, _, _ => rfl
 | n + 1, x, y => by
  show Yg (gpow n (x.2, x.1 + x.2)) y = gpow n ((Yg x y).2, (Yg x y).1 + (Yg x y).2)
  rw [Zp n, Dv]
theorem GZ {x y : Int × Int} (hx : Cone x) (hy : Cone y) : Cone (Yg x y) := by
 obtain ⟨x1, x2, x3⟩ := hx
 obtain ⟨y1, y2, y3⟩ := hy
 have m1 := Int.mul_nonneg x1 y1
 have m2 := Int.mul_nonneg x2 y2
 have m3 := Int.mul_nonneg x1 y2
 have m4 := Int.mul_nonneg x2 y1
 refine ⟨show (0 : Int) <= x.1 * y.1 + x.2 * y.2 by omega, show (0 : Int) <= x.1 * y.2 + x.2 * y.1 + x.2 * y.2 by omega, ?_⟩
 show 0 < x.1 * y.1 + x.2 * y.2 \/ 0 < x.1 * y.2 + x.2 * y.1 + x.2 * y.2
 rcases x3 with x3 | x3 <;> rcases y3 with y3 | y3
 ·have := Int.mul_pos x3 y3; omega
 ·have := Int.mul_pos x3 y3; omega
 ·have := Int.mul_pos x3 y3; omega
 ·have := Int.mul_pos x3 y3; omega
theorem pos_mul {x y : Int × Int} (hx : Pos x.1 x.2) (hy : Pos y.1 y.2) : Pos (Yg x y).1 (Yg x y).2 := by
 obtain ⟨n, hn⟩ := to_cone hx
 obtain ⟨m, hm⟩ := to_cone hy
 have h := cone_pos (GZ hn hm)
 have e : Yg (gpow n (x.1, x.2)) (gpow m (y.1, y.2)) = gpow (m + n) (Yg x y) := by
  rw [Zp, XX, Zp, XX, gpow_add]
 rw [e] at h
 exact (pos_gpow (m + n) (Yg x y)).mpr h
theorem ZL {i : Int} (h : 0 <= i) : absI i = i := by unfold absI; rw [if_neg (by omega)]
theorem Us {i : Int} (h : i < 0) : absI i = -i := by unfold absI; rw [if_pos h]
theorem DY (a b : Int) : (2 * a + b) * (2 * a + b) - 5 * b * b = 4 * N a b := by
 unfold N
 have e1 : (2 * a + b) * (2 * a + b) = 4 * (a * a) + 4 * (a * b) + b * b := by
  rw [Int.add_mul, Int.mul_add, Int.mul_add, Int.mul_assoc, Int.mul_left_comm a 2 a, Int.mul_assoc, Int.mul_comm b (2 * a), Int.mul_assoc]
  omega
 rw [e1, Int.mul_assoc]
 omega
theorem QM {a : Int} (h : a ≠ 0) : 0 < a * a := by
 rcases Int.lt_or_gt_of_ne h with h | h
 ·exact Int.mul_pos_of_neg_of_neg h h
 ·exact Int.mul_pos h h
theorem CJ (a : Int) : 0 <= a * a := by
 by_cases h : a = 0
 ·subst h; decide
 ·exact Int.le_of_lt (QM h)
theorem Y4 {a b : Int} (h : Pos a b) : lawSgn a b = 1 := by
 unfold lawSgn
 have q := DY a b
 have s1 := CJ (2 * a + b)
 have s2 := CJ b
 have e5 : 5 * b * b = 5 * (b * b) := Int.mul_assoc 5 b b
 rcases h with ⟨h1, h2, h3⟩ | ⟨h1, h2, h3⟩ | ⟨h1, h2, h3⟩
 ·rw [if_neg (by omega), ZL h2, ZL (by omega)]
  have s3 : 0 < (2 * a + b) * (2 * a + b) := QM (by omega)
  rw [if_pos (by omega)]
 ·have hT : 0 < 2 * a + b := by
   by_cases h : a + b <= 0
   ·have := Xi h1 h; omega
   ·omega
  rw [if_neg (by omega), Us h2, ZL (by omega), Int.mul_neg]
  rw [if_pos (by omega)]
 ·rw [if_neg (by omega), ZL (i := b) (by omega)]
  by_cases hT : 2 * a + b < 0
  ·rw [Us hT, Int.mul_neg, if_pos (by omega)]
  ·have s3 : 0 < b * b := QM (by omega)
   rw [ZL (by omega), if_pos (by omega)]
theorem U9 {a b : Int} (h : ¬ (a = 0 /\ b = 0)) : lawSgn (-a) (-b) = -lawSgn a b := by
 have absN : ∀ i : Int, absI (-i) = absI i := fun i => by unfold absI; split <;> split <;> omega
 unfold lawSgn
 have e1 : 2 * -a + -b = -(2 * a + b) := by omega
 have z1 : ¬ (-(2 * a + b) = 0 /\ -b = 0) := by omega
 have z2 : ¬ ((2 * a + b) = 0 /\ b = 0) := by omega
 rw [e1, absN, absN, Int.neg_mul, Int.mul_neg 5 b, Int.neg_mul]
 rw [if_neg z1, if_neg z2]
 have hne : (2 * a + b) * absI (2 * a + b) + 5 * b * absI b ≠ 0 := by
  rcases pos_cases a b with h0 | hp | hp
  ·exact absurd h0 h
  ·have := Y4 hp
   unfold lawSgn at this
   rw [if_neg z2] at this
   split at this
   ·omega
   ·omega
  ·have := Y4 hp
   unfold lawSgn at this
   rw [e1, if_neg z1, absN, absN, Int.neg_mul, Int.mul_neg 5 b, Int.neg_mul] at this
   split at this
   ·omega
   ·omega
 split <;> split <;> omega
theorem sgn_law (a b : Int) : sgn a b = lawSgn a b := by
 rcases pos_cases a b with ⟨rfl, rfl⟩ | hp | hp
 ·rfl
 ·rw [sgn_pos hp, Y4 hp]
 ·have e1 := sgn_pos hp
  have e2 := Y4 hp
  rw [sgn_opp] at e1
  rw [U9 (by rintro ⟨rfl, rfl⟩; unfold Pos at hp; omega)] at e2
  omega
end M02
namespace GH
open FL L2
abbrev Gd := Int × Int
def yD (x y : Gd) : Gd := (x.1 + y.1, x.2 + y.2)
def yL (x : Gd) : Gd := (-x.1, -x.2)
def yM (x y : Gd) : Gd := (x.1 * y.1 + x.2 * y.2, x.1 * y.2 + x.2 * y.1 + x.2 * y.2)
def gD (x : Gd) : D := .tup [.int x.1, .int x.2]
def xu (r : List Gd) : D := .tup (r.map gD)
abbrev T3 := Int × Int × Int
def tD (t : T3) : D := .tup [.int t.1, .int t.2.1, .int t.2.2]
def zj (n : Nat) (ts : List T3) : D := .tup [.int n, .lst (ts.map tD)]
def mlo (i j : Int) : Int := if j < i then j else i
def mhi (i j : Int) : Int := if j > i then j else i
theorem Gp (i j : Int) : mlo i j = mlo j i := by unfold mlo; split <;> split <;> omega
theorem Gs (i j : Int) : mhi i j = mhi j i := by unfold mhi; split <;> split <;> omega
def yJ : List T3 -> Int -> Int -> Int
 | [], _, _ => 2
 | t :: ts, i, j => if t.1 = mlo i j /\ t.2.1 = mhi i j then t.2.2 else yJ ts i j
theorem jD (ts : List T3) (i j : Int) : yJ ts i j = yJ ts j i := by
 induction ts with
 | nil => rfl
 | cons t ts ih => unfold yJ; rw [Gp, Gs, ih]
def yw (ts : List T3) : Prop := ∀ t ∈ ts, t.2.2 = 0 \/ (3 <= t.2.2 /\ t.2.2 <= 6)
theorem v7 {ts : List T3} (h : yw ts) (i j : Int) : yJ ts i j = 0 \/ (2 <= yJ ts i j /\ yJ ts i j <= 6) := by
 induction ts with
 | nil => simp [yJ]
 | cons t ts ih =>
  unfold yJ
  split
  ·have := h t g0s; omega
  ·exact ih fun t ht => h t (g0m _ ht)
def zI (m : Int) (less : Bool) : Gd :=
 if m = 0 then (-2, 0) else if m = 2 then (0, 0) else if m = 3 then (-1, 0) else if m = 4 then (if less then (-2, 0) else (-1, 0)) else if m = 5 then (0, -1) else (if less then (-3, 0) else (-1, 0))
def qP (ts : List T3) (i j : Int) : Gd := if i = j then (2, 0) else zI (yJ ts i j) (decide (i < j))
theorem WY (m : Int) (b : Bool) : -3 <= (zI m b).1 /\ (zI m b).1 <= 2 /\ -1 <= (zI m b).2 /\ (zI m b).2 <= 0 := by
 unfold zI
 repeat' split
 all_goals decide
theorem uF (ts : List T3) (i j : Int) : -3 <= (qP ts i j).1 /\ (qP ts i j).1 <= 2 /\ -1 <= (qP ts i j).2 /\ (qP ts i j).2 <= 0 := by
 unfold qP
 split
 ·decide
 ·exact WY _ _
def y9 (A : Nat -> Gd) : Nat -> List Gd -> Gd -> Gd
 | _, [], acc => acc
 | k, x :: r, acc => y9 A (k + 1) r (yD acc (yM (A k) x))
def wX (A : Nat -> Gd) (i : Nat) (r : List Gd) : List Gd := r.set i (yD (r.getD i (0, 0)) (yL (y9 A 0 r (0, 0))))
theorem z7 (A : Nat -> Gd) (i : Nat) (r : List Gd) : (wX A i r).length = r.length := by simp [wX]
def yd (A : Nat -> Nat -> Gd) (w : List Nat) (r : List Gd) : List Gd := w.foldr (fun i r => wX (A i) i r) r
theorem zG (A : Nat -> Nat -> Gd) (w : List Nat) (r : List Gd) : (yd A w r).length = r.length := by
 induction w with
 | nil => rfl
 | cons i w ih => show (wX (A i) i (yd A w r)).length = _; rw [z7, ih]
theorem xh (A : Nat -> Nat -> Gd) (u v : List Nat) (r : List Gd) : yd A (u ++ v) r = yd A u (yd A v r) := by simp [yd]
def ye (n i : Nat) : List Gd := (g1e n).map fun j => if j = i then (1, 0) else (0, 0)
theorem zh (n i : Nat) : (ye n i).length = n := by simp [ye]
def zf (ts : List T3) : Nat -> Nat -> Gd := fun i j => qP ts (i : Int) (j : Int)
theorem J5 (x y : Gd) : yD x y = yD y x := by simp [yD, Int.add_comm]
theorem uu (x y z : Gd) : yD (yD x y) z = yD x (yD y z) := by simp [yD, Int.add_assoc]
theorem xY (x : Gd) : yD x (0, 0) = x := by simp [yD]
theorem xV (x : Gd) : yD (0, 0) x = x := by simp [yD]
theorem X7 (x : Gd) : yL (yL x) = x := by simp [yL]
theorem J4 (x y : Gd) : yL (yD x y) = yD (yL x) (yL y) := by simp [yD, yL]; omega
theorem GJ (x y z : Gd) : yM x (yD y z) = yD (yM x y) (yM x z) := by simp only [yM, yD, Int.mul_add, Prod.mk.injEq]; omega
theorem GG (y : Gd) : yM (2, 0) y = yD y y := by simp only [yM, yD, Int.zero_mul, Prod.mk.injEq]; omega
theorem xB (A : Nat -> Gd) : ∀ (r : List Gd) (k : Nat) (acc : Gd), y9 A k r acc = yD acc (y9 A k r (0, 0))
 | [], k, acc => by simp [y9, xY]
 | x :: r, k, acc => by
  unfold y9
  rw [xB A r (k + 1) (yD acc _), xB A r (k + 1) (yD (0, 0) _), xV, uu]
theorem Yx (A : Nat -> Gd) : ∀ (r : List Gd) (k i : Nat) (y : Gd), i < r.length -> y9 A k (r.set i (yD (r.getD i (0, 0)) y)) (0, 0) = yD (y9 A k r (0, 0)) (yM (A (k + i)) y)
 | [], _, _, _, h => by simp at h
 | x :: r, k, 0, y, h => by
  simp only [g0h, List.getD_cons_zero, y9, xV, Nat.add_zero]
  rw [xB A r (k + 1) (yM (A k) x), xB A r (k + 1) (yM (A k) (yD x y)), GJ, uu, J5 (yM (A k) y), <- uu]
 | x :: r, k, i + 1, y, h => by
  simp only [g0j, List.getD_cons_succ, y9, xV]
  rw [xB A r (k + 1) (yM (A k) x), xB A _ (k + 1) (yM (A k) x), Yx A r (k + 1) i y (by simpa using h), uu]
  congr 4
  omega
theorem XZ {A : Nat -> Gd} {i : Nat} (h : A i = (2, 0)) (r : List Gd) (hi : i < r.length) : wX A i (wX A i r) = r := by
 unfold wX
 have hs := Yx A r 0 i (yL (y9 A 0 r (0, 0))) hi
 rw [hs, g1t, h, GG, List.set_set]
 have hg : (r.set i (yD (r.getD i (0, 0)) (yL (y9 A 0 r (0, 0))))).getD i (0, 0) = yD (r.getD i (0, 0)) (yL (y9 A 0 r (0, 0))) := by simp [g0k, hi]
 rw [hg]
 generalize y9 A 0 r (0, 0) = S
 have e : yD (yD (r.getD i (0, 0)) (yL S)) (yL (yD S (yD (yL S) (yL S)))) = r.getD i (0, 0) := by
  simp only [yD, yL]
  refine Prod.ext ?_ ?_ <;> simp only [] <;> omega
 rw [e]
 apply g2o
 intro k
 rw [g1b]
 by_cases hk : i = k
 ·subst hk
  simp [hi, g0k]
 ·rw [if_neg hk]
theorem Zv {A : Nat -> Nat -> Gd} (h : ∀ i, A i i = (2, 0)) : ∀ (w : List Nat) (r : List Gd), (∀ i ∈ w, i < r.length) -> yd A w.reverse (yd A w r) = r
 | [], r, _ => rfl
 | i :: w, r, hw => by
  rw [g2f, xh]
  show yd A w.reverse (wX (A i) i (wX (A i) i (yd A w r))) = r
  rw [XZ (h i) _ (by rw [zG]; exact hw i g0s)]
  exact Zv h w r fun j hj => hw j (g0m _ hj)
theorem zW (ts : List T3) (i : Nat) : zf ts i i = (2, 0) := by simp [zf, qP]
def Y5 (a b : Int) : Int :=
 if 0 <= 2 * a + b /\ 0 <= b then (if 0 < 2 * a + b + b then 1 else 0) else if 2 * a + b <= 0 /\ b <= 0 then -1
 else if 0 < 2 * a + b then (if 5 * b * b < (2 * a + b) * (2 * a + b) then 1 else -1) else (if (2 * a + b) * (2 * a + b) < 5 * b * b then 1 else -1)
theorem Qa (a b : Int) : Y5 a b = M02.lawSgn a b := by
 unfold Y5 M02.lawSgn
 generalize 2 * a + b = p
 have ap : (0 <= p /\ M02.absI p = p) \/ (p < 0 /\ M02.absI p = -p) := by unfold M02.absI; split <;> omega
 have aq : (0 <= b /\ M02.absI b = b) \/ (b < 0 /\ M02.absI b = -b) := by unfold M02.absI; split <;> omega
 rcases ap with ⟨hp, ep⟩ | ⟨hp, ep⟩ <;> rcases aq with ⟨hq, eq⟩ | ⟨hq, eq⟩ <;> rw [ep, eq]
 ·have m1 : 0 <= p * p := Int.mul_nonneg hp hp
  have m2 : 0 <= 5 * b * b := Int.mul_nonneg (by omega) hq
  rw [if_pos ⟨hp, hq⟩]
  by_cases h : p = 0 /\ b = 0
  ·rw [if_pos h, if_neg (by omega)]
  ·rw [if_neg h, if_pos (by omega)]
   have : 0 < p * p + 5 * b * b := by
    by_cases hp0 : p = 0
    ·have : 0 < 5 * b * b := Int.mul_pos (by omega) (by omega)
     omega
    ·have : 0 < p * p := Int.mul_pos (by omega) (by omega)
     omega
   rw [if_pos this]
 ·have e : 5 * b * -b = -(5 * b * b) := Int.mul_neg _ _
  rw [if_neg (by omega), e, if_neg (show ¬ (p = 0 /\ b = 0) by omega)]
  by_cases hp0 : p = 0
  ·subst hp0
   have : 0 < 5 * b * b := Int.mul_pos_of_neg_of_neg (by omega) hq
   rw [if_pos (by omega), if_neg (by omega)]; rfl
  ·rw [if_neg (by omega), if_pos (by omega)]
   by_cases h : 5 * b * b < p * p
   ·rw [if_pos h, if_pos (by omega)]
   ·rw [if_neg h, if_neg (by omega)]; rfl
 ·have e : p * -p = -(p * p) := Int.mul_neg _ _
  rw [if_neg (by omega), e, if_neg (show ¬ (p = 0 /\ b = 0) by omega)]
  by_cases hb0 : b = 0
  ·subst hb0
   have : 0 < p * p := Int.mul_pos_of_neg_of_neg hp hp
   rw [if_pos (by omega), if_neg (by omega)]; rfl
  ·rw [if_neg (by omega), if_neg (by omega)]
   by_cases h : p * p < 5 * b * b
   ·rw [if_pos h, if_pos (by omega)]
   ·rw [if_neg h, if_neg (by omega)]; rfl
 ·have e : p * -p = -(p * p) := Int.mul_neg _ _
  have e' : 5 * b * -b = -(5 * b * b) := Int.mul_neg _ _
  have m1 : 0 < p * p := Int.mul_pos_of_neg_of_neg hp hp
  have m2 : 0 < 5 * b * b := Int.mul_pos_of_neg_of_neg (by omega) hq
  rw [if_neg (by omega), if_pos (by omega), e, e', if_neg (show ¬ (p = 0 /\ b = 0) by omega), if_neg (by omega)]; rfl
def YD (x : Gd) : Int := M02.sgn x.1 x.2
def Bnd (B : Nat) (r : List Gd) : Prop := ∀ x ∈ r, x.1.natAbs <= B /\ x.2.natAbs <= B
theorem V4 {p x : Int} {c B : Nat} (hp : p.natAbs <= c) (hx : x.natAbs <= B) : (p * x).natAbs <= c * B := by
 rw [Int.natAbs_mul]
 exact Nat.mul_le_mul hp hx
theorem BV {p x : Gd} {B : Nat} (hp : -3 <= p.1 /\ p.1 <= 2 /\ -1 <= p.2 /\ p.2 <= 0) (hx : x.1.natAbs <= B /\ x.2.natAbs <= B) : (yM p x).1.natAbs <= 5 * B /\ (yM p x).2.natAbs <= 5 * B := by
 have p1 : p.1.natAbs <= 3 := by omega
 have p2 : p.2.natAbs <= 1 := by omega
 have a := V4 p1 hx.1
 have b := V4 p2 hx.2
 have c := V4 p1 hx.2
 have d := V4 p2 hx.1
 constructor
 ·show (p.1 * x.1 + p.2 * x.2).natAbs <= 5 * B
  omega
 ·show (p.1 * x.2 + p.2 * x.1 + p.2 * x.2).natAbs <= 5 * B
  omega
theorem QI {A : Nat -> Gd} (hA : ∀ k, -3 <= (A k).1 /\ (A k).1 <= 2 /\ -1 <= (A k).2 /\ (A k).2 <= 0) {B : Nat} : ∀ (r : List Gd) (k : Nat), Bnd B r -> (y9 A k r (0, 0)).1.natAbs <= 5 * B * r.length /\ (y9 A k r (0, 0)).2.natAbs <= 5 * B * r.length
 | [], k, _ => by simp [y9]
 | x :: r, k, h => by
  unfold y9
  rw [xB, xV]
  have a := BV (hA k) (h x g0s)
  have b := QI hA r (k + 1) fun y hy => h y (g0m _ hy)
  have e : 5 * B * (x :: r).length = 5 * B * r.length + 5 * B := by rw [g0d, Nat.mul_succ]
  rw [e]
  constructor
  ·show ((yM (A k) x).1 + (y9 A (k + 1) r (0, 0)).1).natAbs <= _
   omega
  ·show ((yM (A k) x).2 + (y9 A (k + 1) r (0, 0)).2).natAbs <= _
   omega
theorem BX {B : Nat} {r : List Gd} (h : Bnd B r) (i : Nat) : (r.getD i (0, 0)).1.natAbs <= B /\ (r.getD i (0, 0)).2.natAbs <= B := by
 rw [g0k]
 cases e : r[i]? with
 | none => simp
 | some x => exact h x (g2h e)
theorem BJ {A : Nat -> Gd} (hA : ∀ k, -3 <= (A k).1 /\ (A k).1 <= 2 /\ -1 <= (A k).2 /\ (A k).2 <= 0) {B : Nat} {r : List Gd} (i : Nat) (h : Bnd B r) (hl : r.length <= 6) : Bnd (B * 32) (wX A i r) := fun x hx => by
 unfold wX at hx
 rcases List.mem_or_eq_of_mem_set hx with hx | rfl
 ·have := h x hx; omega
 ·have a := QI hA r 0 h
  have b := BX h i
  have c : 5 * B * r.length <= 5 * B * 6 := Nat.mul_le_mul_left _ hl
  constructor
  ·show ((r.getD i (0, 0)).1 + -(y9 A 0 r (0, 0)).1).natAbs <= _
   omega
  ·show ((r.getD i (0, 0)).2 + -(y9 A 0 r (0, 0)).2).natAbs <= _
   omega
theorem JO {ts : List T3} {B : Nat} {r : List Gd} (h : Bnd B r) (hl : r.length <= 6) : ∀ w : List Nat, Bnd (B * 32 ^ w.length) (yd (zf ts) w r)
 | [] => by simpa [yd] using h
 | i :: w => by
  have ih := JO (ts := ts) h hl w
  have := BJ (A := zf ts i) (fun k => uF ts i k) i ih (by rw [zG]; exact hl)
  show Bnd _ (wX (zf ts i) i (yd (zf ts) w r))
  rw [g0d, Nat.pow_succ, <- Nat.mul_assoc]
  exact this
theorem HQ (n i : Nat) : Bnd 1 (ye n i) := fun x hx => by
 unfold ye at hx
 obtain ⟨j, _, rfl⟩ := g2k.mp hx
 split <;> decide
end GH
namespace GH
def kG (i : Nat) (p : Gd) (r : List Gd) : List Gd := r.set i (yD (r.getD i (0, 0)) p)
theorem xl (i : Nat) (p : Gd) (r : List Gd) : (kG i p r).length = r.length := by simp [kG]
theorem jz {i : Nat} (p q : Gd) {r : List Gd} (h : i < r.length) : kG i p (kG i q r) = kG i (yD q p) r := by
 unfold kG
 have : (r.set i (yD (r.getD i (0, 0)) q)).getD i (0, 0) = yD (r.getD i (0, 0)) q := by simp [g0k, h]
 rw [this, List.set_set, uu]
theorem Wr {i j : Nat} (hij : i ≠ j) (p q : Gd) (r : List Gd) : kG i p (kG j q r) = kG j q (kG i p r) := by
 unfold kG
 have e1 : (r.set j (yD (r.getD j (0, 0)) q)).getD i (0, 0) = r.getD i (0, 0) := by simp [g0k, g1b, Ne.symm hij]
 have e2 : (r.set i (yD (r.getD i (0, 0)) p)).getD j (0, 0) = r.getD j (0, 0) := by simp [g0k, g1b, hij]
 rw [e1, e2, List.set_comm _ _ hij]
theorem vQ (A : Nat -> Gd) {i : Nat} (p : Gd) {r : List Gd} (h : i < r.length) : y9 A 0 (kG i p r) (0, 0) = yD (y9 A 0 r (0, 0)) (yM (A i) p) := by
 have := Yx A r 0 i p h
 rw [g1t] at this
 exact this
theorem jm (A : Nat -> Gd) (i : Nat) (r : List Gd) : wX A i r = kG i (yL (y9 A 0 r (0, 0))) r := rfl
theorem jy {i : Nat} {r : List Gd} (h : i < r.length) : kG i (0, 0) r = r := by
 unfold kG
 rw [xY]
 apply g2o
 intro k
 rw [g1b]
 split
 ·next e => subst e; simp [h, g0k]
 ·rfl
abbrev Fm := Gd × Gd
def ev (f : Fm) (x y : Gd) : Gd := yD (yM f.1 x) (yM f.2 y)
def GM (f g : Fm) : Fm := (yD f.1 g.1, yD f.2 g.2)
def WI (f : Fm) : Fm := (yL f.1, yL f.2)
def fsc (c : Gd) (f : Fm) : Fm := (yM c f.1, yM c f.2)
theorem ku (f g : Fm) (x y : Gd) : ev (GM f g) x y = yD (ev f x y) (ev g x y) := by simp only [ev, GM, yD, yM, Prod.mk.injEq]; constructor <;> grind
theorem uR (f : Fm) (x y : Gd) : ev (WI f) x y = yL (ev f x y) := by simp only [ev, WI, yD, yL, yM, Prod.mk.injEq]; constructor <;> grind
theorem GN (c : Gd) (f : Fm) (x y : Gd) : ev (fsc c f) x y = yM c (ev f x y) := by simp only [ev, fsc, yD, yM, Prod.mk.injEq]; constructor <;> grind
theorem J9 (x y : Gd) : ev ((0, 0), (0, 0)) x y = (0, 0) := by simp [ev, yD, yM]
structure Tn where
 p : Fm
 q : Fm
 x : Fm
 y : Fm
 deriving DecidableEq
def tn0 : Tn := ⟨((0, 0), (0, 0)), ((0, 0), (0, 0)), ((1, 0), (0, 0)), ((0, 0), (1, 0))⟩
def tnJ (a : Gd) (s : Tn) : Tn := ⟨s.p, GM s.q (WI s.y), GM s.x (fsc a (WI s.y)), WI s.y⟩
def tnI (b : Gd) (s : Tn) : Tn := ⟨GM s.p (WI s.x), s.q, WI s.x, GM s.y (fsc b (WI s.x))⟩
def tn (a b : Gd) : Nat -> Tn
 | 0 => tn0
 | k + 1 => tnI b (tnJ a (tn a b k))
def YU (i j : Nat) : Nat -> List Nat
 | 0 => []
 | k + 1 => i :: j :: YU i j k
theorem Yu (z : Gd) : yD z (yM (2, 0) (yL z)) = yL z := by simp only [yD, yM, yL, Prod.mk.injEq]; constructor <;> grind
theorem Dx (A : Nat -> Nat -> Gd) {i j : Nat} (hij : i ≠ j) (hi2 : A i i = (2, 0)) (hj2 : A j j = (2, 0)) {r : List Gd} (hi : i < r.length) (hj : j < r.length) :
  ∀ k : Nat, ∃ R, yd A (YU i j k) r = R /\ R = kG i (ev (tn (A i j) (A j i) k).p (y9 (A i) 0 r (0, 0)) (y9 (A j) 0 r (0, 0))) (kG j (ev (tn (A i j) (A j i) k).q (y9 (A i) 0 r (0, 0)) (y9 (A j) 0 r (0, 0))) r) ∧
   y9 (A i) 0 R (0, 0) = ev (tn (A i j) (A j i) k).x (y9 (A i) 0 r (0, 0)) (y9 (A j) 0 r (0, 0)) /\ y9 (A j) 0 R (0, 0) = ev (tn (A i j) (A j i) k).y (y9 (A i) 0 r (0, 0)) (y9 (A j) 0 r (0, 0)) := by
 generalize hx : y9 (A i) 0 r (0, 0) = x
 generalize hy : y9 (A j) 0 r (0, 0) = y
 intro k
 induction k with
 | zero =>
  refine ⟨r, rfl, ?_, ?_, ?_⟩
  ·simp only [tn, tn0, J9]
   rw [jy hj, jy hi]
  ·rw [hx]; simp [tn, tn0, ev, yD, yM]
  ·rw [hy]; simp [tn, tn0, ev, yD, yM]
 | succ k ih =>
  obtain ⟨R, h1, h2, h3, h4⟩ := ih
  have htn : tn (A i j) (A j i) (k + 1) = tnI (A j i) (tnJ (A i j) (tn (A i j) (A j i) k)) := rfl
  rw [htn]
  generalize tn (A i j) (A j i) k = s at h2 h3 h4
  have hRl : R.length = r.length := by rw [h2, xl, xl]
  have e1 : wX (A j) j R = kG j (ev (WI s.y) x y) R := by rw [jm, h4, uR]
  have sx1 : y9 (A i) 0 (wX (A j) j R) (0, 0) = ev (GM s.x (fsc (A i j) (WI s.y))) x y := by
   rw [e1, vQ (A i) _ (by omega), h3, ku, GN]
  have sy1 : y9 (A j) 0 (wX (A j) j R) (0, 0) = ev (WI s.y) x y := by
   rw [e1, vQ (A j) _ (by omega), h4, hj2, uR, Yu]
  have b1 : wX (A j) j R = kG i (ev s.p x y) (kG j (ev (GM s.q (WI s.y)) x y) r) := by
   rw [e1, h2, <- Wr hij, jz _ _ hj, ku]
  generalize wX (A j) j R = R1 at sx1 sy1 b1 e1
  have hRl1 : R1.length = r.length := by rw [b1, xl, xl]
  have hk : yd A (YU i j (k + 1)) r = wX (A i) i (wX (A j) j (yd A (YU i j k) r)) := rfl
  have e2 : wX (A i) i R1 = kG i (ev (WI (GM s.x (fsc (A i j) (WI s.y)))) x y) R1 := by rw [jm, sx1, uR]
  refine ⟨wX (A i) i R1, ?_, ?_, ?_, ?_⟩
  ·rw [hk, h1, jm (A j), h4, <- uR, <- e1]
  ·rw [e2, b1, jz _ _ (by rw [xl]; exact hi), <- ku]
   rfl
  ·rw [e2, vQ (A i) _ (by omega), sx1, hi2, uR, Yu, <- uR]
   rfl
  ·rw [e2, vQ (A j) _ (by omega), sy1, <- GN, <- ku]
   rfl
theorem kH (A : Nat -> Gd) (n i : Nat) (hi : i < n) : y9 A 0 (ye n i) (0, 0) = A i := by
 have gen : ∀ (m k : Nat) (acc : Gd), y9 A k ((g1e m).map fun t => if k + t = i then ((1, 0) : Gd) else (0, 0)) acc = if k <= i /\ i < k + m then yD acc (A i) else acc := by
  intro m
  induction m with
  | zero => intro k acc; simp [y9]; intro h h2; omega
  | succ m ih =>
   intro k acc
   rw [g2c, g0f, g1n]
   have e : ((fun t => if k + t = i then ((1, 0) : Gd) else (0, 0)) ∘ Nat.succ) = fun t => if (k + 1) + t = i then ((1, 0) : Gd) else (0, 0) := by
    funext t
    simp only [Function.comp]
    have : k + t.succ = k + 1 + t := by omega
    rw [this]
   rw [e]
   unfold y9
   rw [ih]
   by_cases h : k = i
   ·subst h
    have z : yM (A k) (1, 0) = A k := by simp [yM]
    simp [z]
    omega
   ·have z : yM (A k) (0, 0) = (0, 0) := by simp [yM]
    simp only [Nat.add_zero, h, if_false, z, xY]
    by_cases h2 : k + 1 <= i /\ i < k + 1 + m
    ·rw [if_pos h2, if_pos (by omega)]
    ·rw [if_neg h2, if_neg (by omega)]
 have := gen n 0 (0, 0)
 simp only [g1t] at this
 unfold ye
 rw [this, if_pos ⟨g2e _, hi⟩, xV]
theorem Ui : ∀ (n : Nat) (x y : Int × Int), M02.gpow n (x.1 + y.1, x.2 + y.2) = ((M02.gpow n x).1 + (M02.gpow n y).1, (M02.gpow n x).2 + (M02.gpow n y).2)
 | 0, x, y => rfl
 | n + 1, x, y => by
  have := Ui n (x.2, x.1 + x.2) (y.2, y.1 + y.2)
  simp only at this
  unfold M02.gpow
  rw [<- this]
  congr 2
  simp only []
  omega
theorem ZF : ∀ (n : Nat) (x : Int × Int), M02.Cone x -> M02.Cone (M02.gpow n x)
 | 0, x, h => h
 | n + 1, x, h => ZF n _ ⟨h.2.1, by have := h.1; have := h.2.1; simp only []; omega, by have := h.1; have := h.2.1; have := h.2.2; simp only []; omega⟩
theorem Bi {x y : Gd} (hx : M02.Pos x.1 x.2) (hy : M02.Pos y.1 y.2) : M02.Pos (yD x y).1 (yD x y).2 := by
 obtain ⟨n, hn⟩ := M02.to_cone hx
 obtain ⟨m, hm⟩ := M02.to_cone hy
 have h1 : M02.Cone (M02.gpow m (M02.gpow n x)) := ZF m _ hn
 have h2 : M02.Cone (M02.gpow n (M02.gpow m y)) := ZF n _ hm
 rw [M02.gpow_add] at h1 h2
 rw [Nat.add_comm m n] at h2
 rw [M02.pos_gpow (n + m) (yD x y)]
 apply M02.cone_pos
 have e := Ui (n + m) x y
 unfold yD
 rw [e]
 obtain ⟨a1, a2, a3⟩ := h1
 obtain ⟨b1, b2, b3⟩ := h2
 exact ⟨by simp only []; omega, by simp only []; omega, by simp only []; omega⟩
def nn (x : Gd) : Prop := x = (0, 0) \/ M02.Pos x.1 x.2
theorem Jz {x y : Gd} (hx : nn x) (hy : nn y) : nn (yD x y) := by
 rcases hx with rfl | hx
 ·rw [xV]; exact hy
 ·rcases hy with rfl | hy
  ·rw [xY]; exact .inr hx
  ·exact .inr (Bi hx hy)
theorem Jy {x y : Gd} (hx : nn x) (hy : nn y) : nn (yM x y) := by
 rcases hx with rfl | hx
 ·left; simp [yM]
 ·rcases hy with rfl | hy
  ·left; simp [yM]
  ·exact .inr (M02.pos_mul hx hy)
theorem W1 {x : Gd} (h : M02.Pos x.1 x.2) : ¬ M02.Pos (yL x).1 (yL x).2 := by
 intro h'
 have e1 := M02.sgn_pos h
 have e2 := M02.sgn_pos h'
 have := M02.sgn_opp x.1 x.2
 simp only [yL] at e2
 omega
theorem BD {x : Gd} (h : nn x) (h' : nn (yL x)) : x = (0, 0) := by
 rcases h with h | h
 ·exact h
 ·rcases h' with h' | h'
  ·have := congrArg yL h'
   rw [X7] at this
   rw [this]; rfl
  ·exact absurd h' (W1 h)
def nnb (x : Gd) : Bool := decide (0 <= M02.sgn x.1 x.2)
theorem Jx {x : Gd} (h : nnb x = true) : nn x := by
 unfold nnb at h
 rw [decide_eq_true_eq] at h
 rcases M02.pos_cases x.1 x.2 with ⟨h1, h2⟩ | hp | hp
 ·exact .inl (Prod.ext h1 h2)
 ·exact .inr hp
 ·have := M02.sgn_pos hp
  rw [M02.sgn_opp] at this
  omega
theorem XW (k : Int) (h : 0 <= k) : nn (k, 0) := by
 by_cases c : k = 0
 ·left; rw [c]
 ·exact .inr (.inl ⟨h, Int.le_refl _, .inl (by omega)⟩)
theorem G9 {x : Gd} (h : nn x) : YD x ≠ -1 := by
 rcases h with rfl | h
 ·decide
 ·unfold YD; rw [M02.sgn_pos h]; decide
theorem CL {x : Gd} (h : nn (yL x)) : YD x ≠ 1 := by
 have := G9 h
 unfold YD yL at *
 rw [M02.sgn_opp] at this
 omega
def Xo (r s : List Gd) : List Gd := List.zipWith yD r s
def rsc (c : Gd) (r : List Gd) : List Gd := r.map (yM c)
theorem xG {r s : List Gd} (h : r.length = s.length) : (Xo r s).length = r.length := by simp [Xo, h]
theorem zK (c : Gd) (r : List Gd) : (rsc c r).length = r.length := by simp [rsc]
theorem vU {r s : List Gd} (h : r.length = s.length) (e : ∀ k, k < r.length -> r.getD k (0, 0) = s.getD k (0, 0)) : r = s := by
 apply List.ext_getElem h
 intro k h1 h2
 have := e k h1
 simpa [g0k, h1, h2] using this
theorem w6 {r s : List Gd} (h : r.length = s.length) (k : Nat) : (Xo r s).getD k (0, 0) = yD (r.getD k (0, 0)) (s.getD k (0, 0)) := by
 unfold Xo
 simp only [g0k, List.getElem?_zipWith]
 by_cases hk : k < r.length
 ·simp [hk, h ▸ hk]
 ·have h2 : ¬ k < s.length := by omega
  simp [g1d (g3d.mp hk), g1d (g3d.mp h2), yD]
theorem xE (c : Gd) (r : List Gd) (k : Nat) : (rsc c r).getD k (0, 0) = yM c (r.getD k (0, 0)) := by
 unfold rsc
 simp only [g0k, g0w]
 by_cases hk : k < r.length
 ·simp [hk]
 ·simp [g1d (g3d.mp hk), yM]
theorem wD (A : Nat -> Gd) {i : Nat} {r : List Gd} (hi : i < r.length) (k : Nat) : (wX A i r).getD k (0, 0) = if k = i then yD (r.getD i (0, 0)) (yL (y9 A 0 r (0, 0))) else r.getD k (0, 0) := by
 unfold wX
 simp only [g0k, g1b]
 by_cases h : k = i
 ·subst h; simp [hi]
 ·have : ¬ i = k := fun e => h e.symm
  simp [h, this]
theorem Yz (A : Nat -> Gd) : ∀ (r s : List Gd) (k : Nat), r.length = s.length -> y9 A k (Xo r s) (0, 0) = yD (y9 A k r (0, 0)) (y9 A k s (0, 0))
 | [], [], k, _ => rfl
 | [], _ :: _, _, h => by cases h
 | _ :: _, [], _, h => by cases h
 | x :: r, y :: s, k, h => by
  have ih := Yz A r s (k + 1) (by simpa using h)
  unfold Xo at ih ⊢
  simp only [List.zipWith_cons_cons, y9, xV]
  rw [xB A (List.zipWith yD r s), ih, xB A r (k + 1) (yM (A k) x), xB A s (k + 1) (yM (A k) y)]
  generalize y9 A (k + 1) r (0, 0) = p
  generalize y9 A (k + 1) s (0, 0) = q
  simp only [yD, yM, Prod.mk.injEq]
  constructor <;> grind
theorem Yy (A : Nat -> Gd) (c : Gd) : ∀ (r : List Gd) (k : Nat), y9 A k (rsc c r) (0, 0) = yM c (y9 A k r (0, 0))
 | [], k => by simp [rsc, y9, yM]
 | x :: r, k => by
  have ih := Yy A c r (k + 1)
  unfold rsc at ih ⊢
  simp only [g0f, y9, xV]
  rw [xB A (List.map (yM c) r), ih, xB A r (k + 1) (yM (A k) x)]
  generalize y9 A (k + 1) r (0, 0) = p
  simp only [yD, yM, Prod.mk.injEq]
  constructor <;> grind
theorem Gq (A : Nat -> Gd) {i : Nat} {r s : List Gd} (h : r.length = s.length) (hi : i < r.length) : wX A i (Xo r s) = Xo (wX A i r) (wX A i s) := by
 have hl : (wX A i r).length = (wX A i s).length := by rw [z7, z7, h]
 apply vU (by rw [z7, xG h, xG hl, z7])
 intro k _
 rw [wD A (by rw [xG h]; exact hi), w6 hl, wD A hi, wD A (h ▸ hi), w6 h, w6 h, Yz A r s 0 h]
 split
 ·simp only [yD, yL, Prod.mk.injEq]; constructor <;> omega
 ·rfl
theorem BI (A : Nat -> Gd) {i : Nat} (c : Gd) {r : List Gd} (hi : i < r.length) : wX A i (rsc c r) = rsc c (wX A i r) := by
 apply vU (by rw [z7, zK, zK, z7])
 intro k _
 rw [wD A (by rw [zK]; exact hi), Yy]
 simp only [xE]
 rw [wD A hi]
 split
 ·simp only [yD, yL, yM, Prod.mk.injEq]; constructor <;> grind
 ·rfl
def InW (n : Nat) (w : List Nat) : Prop := ∀ i ∈ w, i < n
theorem InW.app {n : Nat} {u v : List Nat} (hu : InW n u) (hv : InW n v) : InW n (u ++ v) := fun i hi => (g1m.mp hi).elim (hu i) (hv i)
theorem InW.left {n : Nat} {u v : List Nat} (h : InW n (u ++ v)) : InW n u := fun i hi => h i (g1m.mpr (.inl hi))
theorem InW.right {n : Nat} {u v : List Nat} (h : InW n (u ++ v)) : InW n v := fun i hi => h i (g1m.mpr (.inr hi))
theorem InW.rev {n : Nat} {u : List Nat} (h : InW n u) : InW n u.reverse := fun i hi => h i (by simpa using hi)
theorem InW.one {n i : Nat} (h : i < n) : InW n [i] := fun k hk => by simp at hk; omega
theorem InW.cons {n i : Nat} {u : List Nat} (h : i < n) (hu : InW n u) : InW n (i :: u) := fun k hk => by
 rcases g0q.mp hk with rfl | hk
 ·exact h
 ·exact hu k hk
section
variable (A : Nat -> Nat -> Gd)
theorem xx (i : Nat) (w : List Nat) (r : List Gd) : yd A (i :: w) r = wX (A i) i (yd A w r) := rfl
theorem kK : ∀ (w : List Nat) {r s : List Gd}, r.length = s.length -> InW r.length w -> yd A w (Xo r s) = Xo (yd A w r) (yd A w s)
 | [], r, s, h, hw => rfl
 | i :: w, r, s, h, hw => by
  rw [xx, xx, xx, kK w h (fun k hk => hw k (g0m _ hk)), Gq (A i) (by rw [zG, zG, h]) (by rw [zG]; exact hw i g0s)]
theorem u7 (c : Gd) : ∀ (w : List Nat) {r : List Gd}, InW r.length w -> yd A w (rsc c r) = rsc c (yd A w r)
 | [], r, hw => rfl
 | i :: w, r, hw => by
  rw [xx, xx, u7 c w (fun k hk => hw k (g0m _ hk)), BI (A i) c (by rw [zG]; exact hw i g0s)]
def Eqv (n : Nat) (u v : List Nat) : Prop := ∀ r : List Gd, r.length = n -> yd A u r = yd A v r
variable {A} {n : Nat}
theorem Eqv.rfl' (u : List Nat) : Eqv A n u u := fun _ _ => rfl
theorem Eqv.symm {u v : List Nat} (h : Eqv A n u v) : Eqv A n v u := fun r hr => (h r hr).symm
theorem Eqv.trans {u v w : List Nat} (h : Eqv A n u v) (h' : Eqv A n v w) : Eqv A n u w := fun r hr => (h r hr).trans (h' r hr)
theorem Eqv.app {u v u' v' : List Nat} (h : Eqv A n u u') (h' : Eqv A n v v') : Eqv A n (u ++ v) (u' ++ v') := fun r hr => by
 rw [xh, xh, h' r hr, h _ (by rw [zG, hr])]
variable (h2 : ∀ i, A i i = (2, 0))
include h2
theorem Eqv.twice {s : Nat} (hs : s < n) : Eqv A n [s, s] [] := fun r hr => XZ (h2 s) r (by omega)
theorem kN {w : List Nat} (hw : InW n w) : Eqv A n (w.reverse ++ w) [] := fun r hr => by
 rw [xh]
 exact Zv h2 w r (fun i hi => by rw [hr]; exact hw i hi)
theorem jt {w : List Nat} (hw : InW n w) : Eqv A n (w ++ w.reverse) [] := by
 have := kN h2 hw.rev
 rwa [g2b] at this
theorem Eqv.rev {u v : List Nat} (hu : InW n u) (hv : InW n v) (h : Eqv A n u v) : Eqv A n u.reverse v.reverse := by
 have a1 : Eqv A n (u.reverse ++ (v ++ v.reverse)) (u.reverse ++ []) := (Eqv.rfl' _).app (jt h2 hv)
 have a2 : Eqv A n ((u.reverse ++ v) ++ v.reverse) ((u.reverse ++ u) ++ v.reverse) := ((Eqv.rfl' _).app h.symm).app (Eqv.rfl' _)
 have a3 : Eqv A n ((u.reverse ++ u) ++ v.reverse) ([] ++ v.reverse) := (kN h2 hu).app (Eqv.rfl' _)
 rw [g0t, <- g0x] at a1
 exact a1.symm.trans (a2.trans a3)
theorem We {w : List Nat} {s : Nat} (hs : s < n) : Eqv A n ((w ++ [s]) ++ [s]) w := by
 have := (Eqv.rfl' (A := A) (n := n) w).app (Eqv.twice h2 hs)
 rw [g0t] at this
 simpa using this
end
theorem Ym {α : Type} (P : α -> Prop) (f : α -> Nat) (h : ∃ x, P x) : ∃ x, P x /\ ∀ y, P y -> f x <= f y := by
 obtain ⟨x, hx⟩ := h
 have gen : ∀ k x, P x -> f x = k -> ∃ x, P x /\ ∀ y, P y -> f x <= f y := by
  intro k
  induction k using Nat.strongRecOn with
  | ind k ih =>
   intro x hx hk
   by_cases c : ∃ y, P y /\ f y < f x
   ·obtain ⟨y, hy, hl⟩ := c
    exact ih (f y) (by omega) y hy rfl
   ·exact ⟨x, hx, fun y hy => g3d.mp fun hl => c ⟨y, hy, hl⟩⟩
 exact gen _ x hx rfl
section
variable (A : Nat -> Nat -> Gd) (n : Nat)
def Red (w : List Nat) : Prop := InW n w /\ ∀ u, InW n u -> Eqv A n u w -> w.length <= u.length
def qX (w : List Nat) (s : Nat) : Prop := ∀ u, InW n u -> Eqv A n u (w ++ [s]) -> w.length <= u.length
theorem Yb {w : List Nat} (hw : InW n w) : ∃ u, Red A n u /\ Eqv A n u w := by
 obtain ⟨u, ⟨h1, h3⟩, h4⟩ := Ym (fun u => InW n u /\ Eqv A n u w) g3c ⟨w, hw, Eqv.rfl' w⟩
 exact ⟨u, ⟨h1, fun v hv e => h4 v ⟨hv, e.trans h3⟩⟩, h3⟩
end
def sel (s t : Nat) : Bool -> Nat := fun b => if b = true then s else t
def tnW (a b : Gd) : List Bool -> Tn
 | [] => tn0
 | c :: l => if c = true then tnI b (tnW a b l) else tnJ a (tnW a b l)
def alt : Nat -> List Bool
 | 0 => []
 | k + 1 => decide (k % 2 = 1) :: alt k
theorem wz : ∀ k, (alt k).length = k
 | 0 => rfl
 | k + 1 => by rw [alt, g0d, wz k]
theorem ZK {m : Nat} : ∀ {k : Nat}, m <= k -> ∃ pre, alt k = pre ++ alt m
  | 0, h => ⟨[], by have : m = 0 := by omega
                    subst this; rfl⟩
  | k + 1, h => by
    by_cases c : m = k + 1
    · exact ⟨[], by rw [c]; rfl⟩
    · obtain ⟨pre, e⟩ := ZK (m := m) (k := k) (by omega)
      exact ⟨decide (k % 2 = 1) :: pre, by rw [alt, e]; rfl⟩
theorem Ur : ∀ k, ∃ x, alt (k + 1) = x ++ [false] /\ x.length = k
 | 0 => ⟨[], rfl, rfl⟩
 | k + 1 => by
  obtain ⟨x, e, h⟩ := Ur k
  exact ⟨decide ((k + 1) % 2 = 1) :: x, by rw [alt, e]; rfl, by simp [h]⟩
theorem Uq : ∀ a : List Bool, (∀ x b y, a ≠ x ++ b :: b :: y) -> (∀ x, a ≠ x ++ [true]) -> a = alt a.length
 | [], _, _ => rfl
 | b :: a, h1, h2 => by
  have ih := Uq a (fun x c y e => h1 (b :: x) c y (by rw [e]; rfl)) (fun x e => h2 (b :: x) (by rw [e]; rfl))
  cases a with
  | nil =>
   cases b with
   | true => exact absurd rfl (h2 [])
   | false => rfl
  | cons c a =>
   rw [g0d] at ih ⊢
   have e1 : c = decide (a.length % 2 = 1) := by
    rw [alt] at ih
    exact (List.cons.inj ih).1
   have e2 : b ≠ c := fun e => h1 [] b a (by rw [e]; rfl)
   rw [g0d, alt, <- ih]
   congr 1
   by_cases c1 : a.length % 2 = 1
   ·have c2 : ¬ ((a.length + 1) % 2 = 1) := by omega
    simp only [c1, c2, decide_true, decide_false] at e1 ⊢
    cases b <;> simp_all
   ·have c2 : (a.length + 1) % 2 = 1 := by omega
    simp only [c1, c2, decide_true, decide_false] at e1 ⊢
    cases b <;> simp_all
section
variable {A : Nat -> Nat -> Gd} {s t n : Nat} (hst : s ≠ t) (hs2 : A s s = (2, 0)) (ht2 : A t t = (2, 0))
include hst hs2 ht2
theorem X3 {r : List Gd} (hs : s < r.length) (ht : t < r.length) : ∀ l : List Bool, ∃ R, yd A (l.map (sel s t)) r = R /\ R = kG s (ev (tnW (A s t) (A t s) l).p (y9 (A s) 0 r (0, 0)) (y9 (A t) 0 r (0, 0))) (kG t (ev (tnW (A s t) (A t s) l).q (y9 (A s) 0 r (0, 0)) (y9 (A t) 0 r (0, 0))) r) ∧
      y9 (A s) 0 R (0, 0) = ev (tnW (A s t) (A t s) l).x (y9 (A s) 0 r (0, 0)) (y9 (A t) 0 r (0, 0)) /\ y9 (A t) 0 R (0, 0) = ev (tnW (A s t) (A t s) l).y (y9 (A s) 0 r (0, 0)) (y9 (A t) 0 r (0, 0)) := by
  generalize hx : y9 (A s) 0 r (0, 0) = x
  generalize hy : y9 (A t) 0 r (0, 0) = y
  intro l
  induction l with
  | nil =>
    refine ⟨r, rfl, ?_, ?_, ?_⟩
    · simp only [tnW, tn0, J9]
      rw [jy ht, jy hs]
    · rw [hx]; simp [tnW, tn0, ev, yD, yM]
    · rw [hy]; simp [tnW, tn0, ev, yD, yM]
  | cons c l ih =>
    obtain ⟨R, h1, h2, h3, h4⟩ := ih
    have hRl : R.length = r.length := by rw [h2, xl, xl]
    cases c with
    | false =>
      have htn : tnW (A s t) (A t s) (false :: l) = tnJ (A s t) (tnW (A s t) (A t s) l) := rfl
      rw [htn]
      generalize tnW (A s t) (A t s) l = z at h2 h3 h4
      have e1 : wX (A t) t R = kG t (ev (WI z.y) x y) R := by rw [jm, h4, uR]
      refine ⟨wX (A t) t R, ?_, ?_, ?_, ?_⟩
      · rw [g0f, xx, h1]; rfl
      · rw [e1, h2, <- Wr hst, jz _ _ ht, <- ku]; rfl
      · rw [e1, vQ (A s) _ (by omega), h3, <- GN, <- ku]; rfl
      · rw [e1, vQ (A t) _ (by omega), h4, ht2, uR, Yu, <- uR]; rfl
    | true =>
      have htn : tnW (A s t) (A t s) (true :: l) = tnI (A t s) (tnW (A s t) (A t s) l) := rfl
      rw [htn]
      generalize tnW (A s t) (A t s) l = z at h2 h3 h4
      have e2 : wX (A s) s R = kG s (ev (WI z.x) x y) R := by rw [jm, h3, uR]
      refine ⟨wX (A s) s R, ?_, ?_, ?_, ?_⟩
      · rw [g0f, xx, h1]; rfl
      · rw [e2, h2, jz _ _ (by rw [xl]; exact hs), <- ku]; rfl
      · rw [e2, vQ (A s) _ (by omega), h3, hs2, uR, Yu, <- uR]; rfl
      · rw [e2, vQ (A t) _ (by omega), h4, <- GN, <- ku]; rfl
theorem js (hs : s < n) (ht : t < n) {l l' : List Bool} (hp : (tnW (A s t) (A t s) l).p = (tnW (A s t) (A t s) l').p) (hq : (tnW (A s t) (A t s) l).q = (tnW (A s t) (A t s) l').q) : Eqv A n (l.map (sel s t)) (l'.map (sel s t)) := fun r hr => by
 obtain ⟨R, h1, h2, _⟩ := X3 hst hs2 ht2 (r := r) (by omega) (by omega) l
 obtain ⟨R', h1', h2', _⟩ := X3 hst hs2 ht2 (r := r) (by omega) (by omega) l'
 rw [h1, h1', h2, h2', hp, hq]
end
theorem ZI (b : Bool) {m : Nat} (h : 2 <= m /\ m <= 6) : (tnW (zI (m : Int) b) (zI (m : Int) (!b)) (alt m)).p = (tnW (zI (m : Int) b) (zI (m : Int) (!b)) ((alt m).map (!·))).p /\ (tnW (zI (m : Int) b) (zI (m : Int) (!b)) (alt m)).q = (tnW (zI (m : Int) b) (zI (m : Int) (!b)) ((alt m).map (!·))).q := by
 rcases (by omega : m = 2 \/ m = 3 \/ m = 4 \/ m = 5 \/ m = 6) with e | e | e | e | e <;> subst e <;> cases b <;> decide +kernel
theorem xC {n i k : Nat} (h : k < n) : (ye n i).getD k (0, 0) = if k = i then (1, 0) else (0, 0) := by
 unfold ye
 simp [g0k, h]
def Qs (n s t : Nat) (p q : Gd) : List Gd := Xo (rsc p (ye n s)) (rsc q (ye n t))
theorem yF (n s t : Nat) (p q : Gd) : (Qs n s t p q).length = n := by
 unfold Qs
 rw [xG (by rw [zK, zK, zh, zh]), zK, zh]
theorem kM (c : Gd) : yM c (1, 0) = c := by simp [yM]
theorem jr (c : Gd) : yM c (0, 0) = (0, 0) := by simp [yM]
theorem va {n s t k : Nat} (p q : Gd) (hk : k < n) : (Qs n s t p q).getD k (0, 0) = yD (if k = s then p else (0, 0)) (if k = t then q else (0, 0)) := by
 unfold Qs
 rw [w6 (by rw [zK, zK, zh, zh]), xE, xE, xC hk, xC hk]
 by_cases h1 : k = s <;> by_cases h2 : k = t <;> simp only [h1, h2, if_true, if_false, kM, jr] <;> split <;> simp [kM, jr]
theorem Um (A : Nat -> Gd) {n s t : Nat} (p q : Gd) (hs : s < n) (ht : t < n) : y9 A 0 (Qs n s t p q) (0, 0) = yD (yM p (A s)) (yM q (A t)) := by
 unfold Qs
 rw [Yz A _ _ 0 (by rw [zK, zK, zh, zh]), Yy, Yy, kH A n s hs, kH A n t ht]
theorem Fg {A : Nat -> Nat -> Gd} {n s t : Nat} (hst : s ≠ t) (hs2 : A s s = (2, 0)) (p q : Gd) (hs : s < n) (ht : t < n) : wX (A s) s (Qs n s t p q) = Qs n s t (yL (yD p (yM (A s t) q))) q := by
 apply vU (by rw [z7, yF, yF])
 intro k hk
 rw [z7, yF] at hk
 rw [wD (A s) (by rw [yF]; exact hs), Um (A s) p q hs ht, va p q hk, va _ q hk, va p q hs, hs2]
 by_cases c : k = s
 ·subst c
  simp only [if_true, hst, if_false, xY, yD, yL, yM, Prod.mk.injEq]
  constructor <;> grind
 ·simp only [c, if_false]
theorem Ff {A : Nat -> Nat -> Gd} {n s t : Nat} (hst : s ≠ t) (ht2 : A t t = (2, 0)) (p q : Gd) (hs : s < n) (ht : t < n) : wX (A t) t (Qs n s t p q) = Qs n s t p (yL (yD q (yM (A t s) p))) := by
 apply vU (by rw [z7, yF, yF])
 intro k hk
 rw [z7, yF] at hk
 rw [wD (A t) (by rw [yF]; exact ht), Um (A t) p q hs ht, va p q hk, va p _ hk, va p q ht, ht2]
 by_cases c : k = t
 ·subst c
  simp only [if_true, Ne.symm hst, if_false, xV, yD, yL, yM, Prod.mk.injEq]
  constructor <;> grind
 ·simp only [c, if_false]
def pqA (a b : Gd) : Nat -> Gd × Gd
 | 0 => ((1, 0), (0, 0))
 | k + 1 => if k % 2 = 1 then (yL (yD (pqA a b k).1 (yM a (pqA a b k).2)), (pqA a b k).2) else ((pqA a b k).1, yL (yD (pqA a b k).2 (yM b (pqA a b k).1)))
theorem Vg {A : Nat -> Nat -> Gd} {n s t : Nat} (hst : s ≠ t) (hs2 : A s s = (2, 0)) (ht2 : A t t = (2, 0)) (hs : s < n) (ht : t < n) : ∀ k, yd A ((alt k).map (sel s t)) (ye n s) = Qs n s t (pqA (A s t) (A t s) k).1 (pqA (A s t) (A t s) k).2
 | 0 => by
  apply vU (by rw [zG, yF, zh])
  intro k hk
  rw [zG, zh] at hk
  rw [va _ _ hk]
  show (ye n s).getD k (0, 0) = _
  rw [xC hk]
  by_cases c : k = s <;> simp [pqA, c, yD]
 | k + 1 => by
  have ih := Vg hst hs2 ht2 hs ht k
  rw [alt, g0f, xx, ih, pqA]
  by_cases c : k % 2 = 1
  ·have e : sel s t (decide (k % 2 = 1)) = s := by simp [sel, c]
   rw [e, if_pos c, Fg hst hs2 _ _ hs ht]
  ·have e : sel s t (decide (k % 2 = 1)) = t := by simp [sel, c]
   rw [e, if_neg c, Ff hst ht2 _ _ hs ht]
def PQ (x : Gd × Gd) : Prop := nn x.1 /\ nn x.2 /\ (x.2 = (0, 0) -> x.1 = (1, 0)) /\ (x.1 = (0, 0) -> x.2 = (1, 0))
theorem Hi (b : Bool) {m : Nat} (h : 2 <= m /\ m <= 6) {k : Nat} (hk : k < m) : PQ (pqA (zI (m : Int) b) (zI (m : Int) (!b)) k) := by
 have key : ∀ m : Fin 7, 2 <= m.1 -> ∀ b : Bool, ∀ k : Fin 7, k.1 < m.1 -> nnb (pqA (zI (m.1 : Int) b) (zI (m.1 : Int) (!b)) k.1).1 = true /\ nnb (pqA (zI (m.1 : Int) b) (zI (m.1 : Int) (!b)) k.1).2 = true ∧
   ((pqA (zI (m.1 : Int) b) (zI (m.1 : Int) (!b)) k.1).2 = (0, 0) -> (pqA (zI (m.1 : Int) b) (zI (m.1 : Int) (!b)) k.1).1 = (1, 0)) /\ ((pqA (zI (m.1 : Int) b) (zI (m.1 : Int) (!b)) k.1).1 = (0, 0) -> (pqA (zI (m.1 : Int) b) (zI (m.1 : Int) (!b)) k.1).2 = (1, 0)) := by decide +kernel
 have := key ⟨m, by omega⟩ h.1 b ⟨k, by omega⟩ hk
 exact ⟨Jx this.1, Jx this.2.1, this.2.2.1, this.2.2.2⟩
theorem kJ : ∀ k : Nat, pqA (-2, 0) (-2, 0) k = if k % 2 = 1 then (((k : Int), 0), ((k : Int) + 1, 0)) else (((k : Int) + 1, 0), ((k : Int), 0))
 | 0 => rfl
 | k + 1 => by
  rw [pqA, kJ k]
  by_cases c : k % 2 = 1
  ·have c2 : ¬ ((k + 1) % 2 = 1) := by omega
   rw [if_pos c, if_pos c, if_neg c2]
   refine Prod.ext (Prod.ext ?_ ?_) (Prod.ext ?_ ?_) <;> simp only [yL, yD, yM] <;> grind
  ·have c2 : (k + 1) % 2 = 1 := by omega
   rw [if_neg c, if_neg c, if_pos c2]
   refine Prod.ext (Prod.ext ?_ ?_) (Prod.ext ?_ ?_) <;> simp only [yL, yD, yM] <;> grind
theorem Zg (k : Nat) : PQ (pqA (-2, 0) (-2, 0) k) := by
 rw [kJ]
 split
 ·refine ⟨XW _ (by omega), XW _ (by omega), fun e => ?_, fun e => ?_⟩
  ·have := congrArg Prod.fst e; simp only at this; omega
  ·have := congrArg Prod.fst e; simp only at this; omega
 ·refine ⟨XW _ (by omega), XW _ (by omega), fun e => ?_, fun e => ?_⟩
  ·have := congrArg Prod.fst e
   simp only at this ⊢
   rw [this]; rfl
  ·have := congrArg Prod.fst e; simp only at this; omega
theorem KJ (b : Bool) {m : Nat} (h : 2 <= m /\ m <= 6) {k : Nat} (hk : k < m) :
  ((pqA (zI (m : Int) b) (zI (m : Int) (!b)) k).2 = (0, 0) -> (tnW (zI (m : Int) b) (zI (m : Int) (!b)) (alt k ++ [true])).p = (tnW (zI (m : Int) b) (zI (m : Int) (!b)) (true :: alt k)).p /\ (tnW (zI (m : Int) b) (zI (m : Int) (!b)) (alt k ++ [true])).q = (tnW (zI (m : Int) b) (zI (m : Int) (!b)) (true :: alt k)).q) ∧
  ((pqA (zI (m : Int) b) (zI (m : Int) (!b)) k).1 = (0, 0) -> (tnW (zI (m : Int) b) (zI (m : Int) (!b)) (alt k ++ [true])).p = (tnW (zI (m : Int) b) (zI (m : Int) (!b)) (false :: alt k)).p /\ (tnW (zI (m : Int) b) (zI (m : Int) (!b)) (alt k ++ [true])).q = (tnW (zI (m : Int) b) (zI (m : Int) (!b)) (false :: alt k)).q) := by
 have key : ∀ m : Fin 7, 2 <= m.1 -> ∀ b : Bool, ∀ k : Fin 7, k.1 < m.1 →
  ((pqA (zI (m.1 : Int) b) (zI (m.1 : Int) (!b)) k.1).2 = (0, 0) -> (tnW (zI (m.1 : Int) b) (zI (m.1 : Int) (!b)) (alt k.1 ++ [true])).p = (tnW (zI (m.1 : Int) b) (zI (m.1 : Int) (!b)) (true :: alt k.1)).p /\ (tnW (zI (m.1 : Int) b) (zI (m.1 : Int) (!b)) (alt k.1 ++ [true])).q = (tnW (zI (m.1 : Int) b) (zI (m.1 : Int) (!b)) (true :: alt k.1)).q) ∧
  ((pqA (zI (m.1 : Int) b) (zI (m.1 : Int) (!b)) k.1).1 = (0, 0) -> (tnW (zI (m.1 : Int) b) (zI (m.1 : Int) (!b)) (alt k.1 ++ [true])).p = (tnW (zI (m.1 : Int) b) (zI (m.1 : Int) (!b)) (false :: alt k.1)).p /\ (tnW (zI (m.1 : Int) b) (zI (m.1 : Int) (!b)) (alt k.1 ++ [true])).q = (tnW (zI (m.1 : Int) b) (zI (m.1 : Int) (!b)) (false :: alt k.1)).q) := by decide +kernel
 exact key ⟨m, by omega⟩ h.1 b ⟨k, by omega⟩ hk
theorem YQ (ts : List T3) {i j : Nat} (hij : i ≠ j) : zf ts i j = zI (yJ ts i j) (decide (i < j)) /\ zf ts j i = zI (yJ ts i j) (!decide (i < j)) := by
 unfold zf qP
 have h1 : ¬ ((i : Int) = (j : Int)) := by omega
 have h2 : ¬ ((j : Int) = (i : Int)) := by omega
 rw [if_neg h1, if_neg h2, jD ts j i]
 refine ⟨by congr 1; simp, ?_⟩
 congr 1
 by_cases c : i < j
 ·have : ¬ ((j : Int) < (i : Int)) := by omega
  simp [c, this]
 ·have : (j : Int) < (i : Int) := by omega
  simp [c, this]
def NNr (r : List Gd) : Prop := ∀ k, nn (r.getD k (0, 0))
theorem QN {ts : List T3} (hg : yw ts) {n : Nat} (w : List Nat) (s : Nat) (hs : s < n) (hw : Red (zf ts) n w) (hd : qX (zf ts) n w s) (hnil : w ≠ []) : ∃ (v : List Nat) (t : Nat) (x : Gd × Gd), v.length < w.length /\ t < n /\ t ≠ s /\ Red (zf ts) n v /\ qX (zf ts) n v s /\ qX (zf ts) n v t /\ PQ x ∧
    yd (zf ts) w (ye n s) = Xo (rsc x.1 (yd (zf ts) v (ye n s))) (rsc x.2 (yd (zf ts) v (ye n t))) ∧
    ∃ b : List Nat, InW n b /\ Eqv (zf ts) n (v ++ b) w /\ (x.2 = (0, 0) -> Eqv (zf ts) n (b ++ [s]) (s :: b)) /\ (x.1 = (0, 0) -> Eqv (zf ts) n (b ++ [s]) (t :: b)) := by
  have h2 := zW ts
  obtain ⟨w', t, rfl⟩ : ∃ w' t, w = w' ++ [t] := ⟨w.dropLast, w.getLast hnil, (List.dropLast_concat_getLast hnil).symm⟩
  have ht : t < n := hw.1 t (by simp)
  have hw' : InW n w' := hw.1.left
  have hst : s ≠ t := by
    intro e
    subst e
    have := hd w' hw' (We h2 hs).symm
    simp at this
    omega
  have hsel : ∀ b, sel s t b < n := fun b => by cases b <;> simp [sel] <;> assumption
  have hmapW : ∀ l : List Bool, InW n (l.map (sel s t)) := fun l i hi => by
    obtain ⟨b, _, rfl⟩ := g2k.mp hi
    exact hsel b
  obtain ⟨⟨v, a⟩, ⟨hv, he, hl⟩, hmin⟩ := Ym (fun p : List Nat × List Bool => InW n p.1 /\ Eqv (zf ts) n (p.1 ++ p.2.map (sel s t)) (w' ++ [t]) /\ p.1.length + p.2.length = (w' ++ [t]).length) (fun p => p.1.length) ⟨(w', [false]), hw', Eqv.rfl' _, by simp⟩
  simp only at hv he hl hmin
  have hv1 : v.length <= w'.length := hmin (w', [false]) ⟨hw', Eqv.rfl' _, by simp⟩
  have hwl : (w' ++ [t]).length = w'.length + 1 := by simp
  have vred : Red (zf ts) n v := ⟨hv, fun u hu e => by
    have := hw.2 (u ++ a.map (sel s t)) (hu.app (hmapW a)) ((e.app (Eqv.rfl' _)).trans he)
    simp only [g0i, g1j, g0d, g0e] at this hl
    omega⟩
  have vnd : ∀ b, qX (zf ts) n v (sel s t b) := fun b u hu e => by
    apply g3d.mp
    intro hlt
    have e2 : Eqv (zf ts) n (u ++ (b :: a).map (sel s t)) (w' ++ [t]) := by
      have e3 : Eqv (zf ts) n ((u ++ [sel s t b]) ++ a.map (sel s t)) (((v ++ [sel s t b]) ++ [sel s t b]) ++ a.map (sel s t)) := (e.app (Eqv.rfl' _)).app (Eqv.rfl' _)
      have e4 : Eqv (zf ts) n (((v ++ [sel s t b]) ++ [sel s t b]) ++ a.map (sel s t)) (v ++ a.map (sel s t)) := (We h2 (hsel b)).app (Eqv.rfl' _)
      have e5 := e3.trans (e4.trans he)
      have : (u ++ [sel s t b]) ++ a.map (sel s t) = u ++ (b :: a).map (sel s t) := by simp
      rwa [this] at e5
    have l1 := hw.2 (u ++ (b :: a).map (sel s t)) (hu.app (hmapW _)) e2
    simp only [g0i, g1j, g0d, g0e] at l1 hl
    have := hmin (u, b :: a) ⟨hu, e2, by simp only [g0i, g0d, g0e]; omega⟩
    simp only at this
    omega
  have shorter : ∀ u : List Nat, InW n u -> Eqv (zf ts) n (u ++ [s]) (w' ++ [t]) -> (w' ++ [t]).length <= u.length := fun u hu e => by
    apply hd u hu
    exact (We h2 hs).symm.trans (e.app (Eqv.rfl' _))
  have a1 : ∀ x b y, a ≠ x ++ b :: b :: y := fun x b y e => by
    subst e
    have e1 : Eqv (zf ts) n (v ++ (x ++ y).map (sel s t)) (v ++ (x ++ b :: b :: y).map (sel s t)) := by
      refine (Eqv.rfl' v).app ?_
      rw [g1u, g1u]
      refine (Eqv.rfl' _).app ?_
      have := (Eqv.twice (n := n) h2 (hsel b)).symm.app (Eqv.rfl' (A := zf ts) (y.map (sel s t)))
      simpa using this
    have := hw.2 (v ++ (x ++ y).map (sel s t)) (hv.app (hmapW _)) (e1.trans he)
    simp only [g0i, g1j, g0d] at this hl
    omega
  have a2 : ∀ x, a ≠ x ++ [true] := fun x e => by
    subst e
    have := shorter (v ++ x.map (sel s t)) (hv.app (hmapW _)) (by simpa [sel] using he)
    simp only [g0i, g1j, g0d, g0e] at this hl
    omega
  have ha := Uq a a1 a2
  obtain ⟨p1, p2⟩ := YQ ts hst
  have gt := v7 hg (s : Int) (t : Int)
  have hpq : PQ (pqA (zf ts s t) (zf ts t s) a.length) /\ ((pqA (zf ts s t) (zf ts t s) a.length).2 = (0, 0) -> Eqv (zf ts) n (a.map (sel s t) ++ [s]) (s :: a.map (sel s t))) /\ ((pqA (zf ts s t) (zf ts t s) a.length).1 = (0, 0) -> Eqv (zf ts) n (a.map (sel s t) ++ [s]) (t :: a.map (sel s t))) := by
    rcases gt with g0 | gt
    · rw [g0] at p1 p2
      have q1 : zI 0 (decide (s < t)) = (-2, 0) := by cases decide (s < t) <;> rfl
      have q2 : zI 0 (!decide (s < t)) = (-2, 0) := by cases decide (s < t) <;> rfl
      rw [p1, p2, q1, q2]
      refine ⟨Zg _, fun e => ?_, fun e => ?_⟩
      · rw [kJ] at e
        have hk0 : a.length = 0 := by
          split at e
          · have := congrArg Prod.fst e; simp only at this; omega
          · have := congrArg Prod.fst e; simp only at this; omega
        have : a = [] := List.length_eq_zero_iff.mp hk0
        rw [this]
        exact Eqv.rfl' _
      · rw [kJ] at e
        exfalso
        split at e
        · have := congrArg Prod.fst e; simp only at this; omega
        · have := congrArg Prod.fst e; simp only at this; omega
    · obtain ⟨m, em⟩ : ∃ m : Nat, yJ ts s t = (m : Int) := ⟨(yJ ts s t).toNat, by omega⟩
      rw [em] at p1 p2 gt
      have hm : 2 <= m /\ m <= 6 := by omega
      have hkm : a.length < m := by
       apply Nat.not_le.mp
       intro hle
       obtain ⟨pre, epre⟩ := ZK hle
       obtain ⟨b1, b2⟩ := ZI (decide (s < t)) hm
       rw [<- p1, <- p2] at b1 b2
       have br := js (n := n) hst (h2 s) (h2 t) hs ht b1 b2
       obtain ⟨y, ey, hy⟩ := Ur (m - 1)
       have em1 : m - 1 + 1 = m := by omega
       rw [em1] at ey
       have ey2 : (alt m).map (!·) = y.map (!·) ++ [true] := by rw [ey]; simp
       rw [ey2, g1u] at br
       have e1 : Eqv (zf ts) n (v ++ (pre.map (sel s t) ++ ((y.map (!·)).map (sel s t) ++ [s]))) (w' ++ [t]) := by
         have e2 : a.map (sel s t) = pre.map (sel s t) ++ (alt m).map (sel s t) := by rw [ha, epre, g1u]
         rw [e2] at he
         refine Eqv.trans ?_ he
         refine (Eqv.rfl' v).app ((Eqv.rfl' _).app ?_)
         exact br.symm
       have := shorter (v ++ (pre.map (sel s t) ++ (y.map (!·)).map (sel s t))) (hv.app ((hmapW _).app (hmapW _))) (by simpa using e1)
       have el : a.length = pre.length + m := by
         have := congrArg g3c epre
         rw [g0i, wz, wz] at this
         exact this
       simp only [g0i, g1j, g0d, g0e] at this hl
       omega
      obtain ⟨w1, w2⟩ := KJ (decide (s < t)) hm hkm
      rw [p1, p2]
      refine ⟨Hi _ hm hkm, fun e => ?_, fun e => ?_⟩
      · obtain ⟨f1, f2⟩ := w1 e
        rw [<- p1, <- p2, <- ha] at f1 f2
        have := js (n := n) hst (h2 s) (h2 t) hs ht f1 f2
        simpa [sel] using this
      · obtain ⟨f1, f2⟩ := w2 e
        rw [<- p1, <- p2, <- ha] at f1 f2
        have := js (n := n) hst (h2 s) (h2 t) hs ht f1 f2
        simpa [sel] using this
  have le := Vg hst (h2 s) (h2 t) hs ht a.length
  rw [<- ha] at le
  have e := he (ye n s) (zh n s)
  rw [xh, le] at e
  have hlen : (rsc (pqA (zf ts s t) (zf ts t s) a.length).1 (ye n s)).length = (rsc (pqA (zf ts s t) (zf ts t s) a.length).2 (ye n t)).length := by rw [zK, zK, zh, zh]
  unfold Qs at e
  rw [kK _ _ hlen (by rw [zK, zh]; exact hv), u7 _ _ _ (by rw [zh]; exact hv), u7 _ _ _ (by rw [zh]; exact hv)] at e
  refine ⟨v, t, _, by omega, ht, Ne.symm hst, vred, by have := vnd true; simpa [sel] using this, by have := vnd false; simpa [sel] using this, hpq.1, e.symm, a.map (sel s t), hmapW a, he, hpq.2.1, hpq.2.2⟩
theorem WB {ts : List T3} (hg : yw ts) {n : Nat} : ∀ (k : Nat) (w : List Nat) (s : Nat), w.length = k -> s < n -> Red (zf ts) n w -> qX (zf ts) n w s -> NNr (yd (zf ts) w (ye n s)) := by
 intro k
 induction k using Nat.strongRecOn with
 | ind k ih =>
  intro w s hk hs hw hd
  by_cases hnil : w = []
  ·subst hnil
   intro j
   show nn ((ye n s).getD j (0, 0))
   by_cases hj : j < n
   ·rw [xC hj]
    split
    ·exact XW 1 (by decide)
    ·exact .inl rfl
   ·left
    simp [g0k, g1d (show (ye n s).length <= j by rw [zh]; omega)]
  ·obtain ⟨v, t, x, hl, ht, _, vr, vs, vt, hx, e, _⟩ := QN hg w s hs hw hd hnil
   have ps := ih v.length (by omega) v s rfl hs vr vs
   have pt := ih v.length (by omega) v t rfl ht vr vt
   intro j
   rw [e, w6 (by rw [zK, zK, zG, zG, zh, zh]), xE, xE]
   exact Jz (Jy hx.1 (ps j)) (Jy hx.2.1 (pt j))
def NPr (r : List Gd) : Prop := ∀ k, nn (yL (r.getD k (0, 0)))
def WH (s : Int) (r : List Gd) : Bool := r.any fun x => decide (YD x = s)
theorem Uh {s : Int} {r : List Gd} (h : WH s r = true) : ∃ k, k < r.length /\ YD (r.getD k (0, 0)) = s := by
 unfold WH at h
 rw [List.any_eq_true] at h
 obtain ⟨x, hx, e⟩ := h
 obtain ⟨k, hk, ek⟩ := List.getElem_of_mem hx
 refine ⟨k, hk, ?_⟩
 simp only [g0k, g0z hk, g2z, ek]
 simpa using e
theorem Vl {s : Int} {r : List Gd} {k : Nat} (hk : k < r.length) (h : YD (r.getD k (0, 0)) = s) : WH s r = true := by
 unfold WH
 rw [List.any_eq_true]
 refine ⟨r[k], List.getElem_mem hk, ?_⟩
 simp only [g0k, g0z hk, g2z] at h
 simpa using h
theorem NNr.no {r : List Gd} (h : NNr r) : WH (-1) r = false := by
 apply Bool.eq_false_iff.mpr
 intro e
 obtain ⟨k, _, hk⟩ := Uh e
 exact G9 (h k) hk
theorem NPr.no {r : List Gd} (h : NPr r) : WH 1 r = false := by
 apply Bool.eq_false_iff.mpr
 intro e
 obtain ⟨k, _, hk⟩ := Uh e
 exact CL (h k) hk
def Nz (r : List Gd) : Prop := ∃ k, k < r.length /\ r.getD k (0, 0) ≠ (0, 0)
theorem NNr.yes {r : List Gd} (h : NNr r) (hz : Nz r) : WH 1 r = true := by
 obtain ⟨k, hk, e⟩ := hz
 refine Vl hk ?_
 rcases h k with c | c
 ·exact absurd c e
 ·exact M02.sgn_pos c
theorem NPr.yes {r : List Gd} (h : NPr r) (hz : Nz r) : WH (-1) r = true := by
 obtain ⟨k, hk, e⟩ := hz
 refine Vl hk ?_
 rcases h k with c | c
 ·exact absurd (by have := congrArg yL c; rwa [X7] at this) e
 ·have := M02.sgn_pos c
  simp only [yL] at this
  rw [M02.sgn_opp] at this
  unfold YD
  omega
theorem NNr.notP {r : List Gd} (h : NNr r) (hz : Nz r) : ¬ NPr r := fun h' => by
 obtain ⟨k, _, e⟩ := hz
 exact e (BD (h k) (h' k))
section
variable {ts : List T3} {n : Nat}
theorem V9 {w : List Nat} {r : List Gd} (hw : InW r.length w) (hz : ∀ k, r.getD k (0, 0) = (0, 0)) : ∀ k, (yd (zf ts) w r).getD k (0, 0) = (0, 0) := by
 have e : r = rsc (0, 0) r := vU (by rw [zK]) fun k _ => by rw [xE, hz]; rfl
 intro k
 rw [e, u7 _ _ _ hw, xE]
 simp [yM]
theorem qL {w : List Nat} (hw : InW n w) {s : Nat} (hs : s < n) : Nz (yd (zf ts) w (ye n s)) := by
 apply Classical.byContradiction
 intro hc
 have hz : ∀ k, (yd (zf ts) w (ye n s)).getD k (0, 0) = (0, 0) := fun k => by
  by_cases hk : k < (yd (zf ts) w (ye n s)).length
  ·exact Classical.byContradiction fun e => hc ⟨k, hk, e⟩
  ·simp [g0k, g1d (g3d.mp hk)]
 have h1 := V9 (ts := ts) (w := w.reverse) (by rw [zG, zh]; exact hw.rev) hz s
 rw [Zv (zW ts) w (ye n s) (fun i hi => by rw [zh]; exact hw i hi), xC hs, if_pos rfl] at h1
 cases h1
theorem JM {w : List Nat} {s : Nat} (hw : InW n w) (hs : s < n) (k : Nat) : (yd (zf ts) (w ++ [s]) (ye n s)).getD k (0, 0) = yL ((yd (zf ts) w (ye n s)).getD k (0, 0)) := by
 have e : wX (zf ts s) s (ye n s) = rsc (-1, 0) (ye n s) := by
  apply vU (by rw [z7, zK])
  intro j hj
  rw [z7, zh] at hj
  rw [wD _ (by rw [zh]; exact hs), xE, kH _ n s hs, zW, xC hs, xC hj]
  by_cases c : j = s
  ·simp [c, yD, yL, yM]
  ·simp [c, yM]
 rw [xh, xx]
 show (yd (zf ts) w (wX (zf ts s) s (ye n s))).getD k (0, 0) = _
 rw [e, u7 _ _ _ (by rw [zh]; exact hw), xE]
 simp [yM, yL]
def Lth (ts : List T3) (n : Nat) (w : List Nat) (l : Nat) : Prop := ∃ u, Red (zf ts) n u /\ Eqv (zf ts) n u w /\ u.length = l
theorem Lth.ex {w : List Nat} (hw : InW n w) : ∃ l, Lth ts n w l := by
 obtain ⟨u, h1, h2⟩ := Yb (zf ts) n hw
 exact ⟨_, u, h1, h2, rfl⟩
theorem Lth.le {w u : List Nat} {l : Nat} (h : Lth ts n w l) (hu : InW n u) (e : Eqv (zf ts) n u w) : l <= u.length := by
 obtain ⟨v, h1, h2, rfl⟩ := h
 exact h1.2 u hu (e.trans h2.symm)
theorem Lth.cong {w w' : List Nat} {l : Nat} (h : Lth ts n w l) (e : Eqv (zf ts) n w w') : Lth ts n w' l := by
 obtain ⟨v, h1, h2, h3⟩ := h
 exact ⟨v, h1, h2.trans e, h3⟩
theorem Lth.uniq {w : List Nat} {l l' : Nat} (h : Lth ts n w l) (h' : Lth ts n w l') : l = l' := by
 obtain ⟨v, h1, h2, rfl⟩ := h
 obtain ⟨v', h1', h2', rfl⟩ := h'
 have a := h1.2 v' h1'.1 (h2'.trans h2.symm)
 have b := h1'.2 v h1.1 (h2.trans h2'.symm)
 omega
theorem Lth.nil : Lth ts n [] 0 := ⟨[], ⟨(fun i hi => by cases hi), fun u _ _ => g2e _⟩, Eqv.rfl' _, rfl⟩
theorem Lth.zero {w : List Nat} (h : Lth ts n w 0) : Eqv (zf ts) n w [] := by
 obtain ⟨v, h1, h2, h3⟩ := h
 have : v = [] := List.length_eq_zero_iff.mp h3
 subst this
 exact h2.symm
theorem Lth.rev {w : List Nat} {l : Nat} (hw : InW n w) (h : Lth ts n w l) : Lth ts n w.reverse l := by
 obtain ⟨l', h'⟩ := Lth.ex (ts := ts) hw.rev
 obtain ⟨u, u1, u2, u3⟩ := h
 obtain ⟨u', v1, v2, v3⟩ := h'
 have a : l' <= l := by
  have := v1.2 u.reverse u1.1.rev ((Eqv.rev (zW ts) u1.1 hw u2).trans v2.symm)
  rw [g1s] at this
  omega
 have b : l <= l' := by
  have e := Eqv.rev (zW ts) v1.1 hw.rev v2
  rw [g2b] at e
  have := u1.2 u'.reverse v1.1.rev (e.trans u2.symm)
  rw [g1s] at this
  omega
 have : l' = l := by omega
 subst this
 exact ⟨u', v1, v2, v3⟩
variable (hg : yw ts)
include hg
theorem wI {w : List Nat} (hw : InW n w) {s : Nat} (hs : s < n) {l : Nat} (hl : Lth ts n w l) :
  (NNr (yd (zf ts) w (ye n s)) /\ Lth ts n (w ++ [s]) (l + 1)) \/ (NPr (yd (zf ts) w (ye n s)) /\ 1 <= l /\ Lth ts n (w ++ [s]) (l - 1)) := by
 have h2 := zW ts
 obtain ⟨u, u1, u2, rfl⟩ := hl
 have eu := u2 (ye n s) (zh n s)
 obtain ⟨x, x1, x2⟩ := Yb (zf ts) n (u1.1.app (InW.one hs))
 have hx := x1.2 (u ++ [s]) (u1.1.app (InW.one hs)) x2.symm
 have xs : Eqv (zf ts) n (x ++ [s]) u := (x2.app (Eqv.rfl' _)).trans (We h2 hs)
 have hux := u1.2 (x ++ [s]) (x1.1.app (InW.one hs)) xs
 rw [g0i, g1k] at hx hux
 have ex := x2 (ye n s) (zh n s)
 have neg : ∀ k, (yd (zf ts) x (ye n s)).getD k (0, 0) = yL ((yd (zf ts) u (ye n s)).getD k (0, 0)) := fun k => by rw [ex, JM u1.1 hs]
 have ew : Eqv (zf ts) n x (w ++ [s]) := x2.trans (u2.app (Eqv.rfl' _))
 have down : x.length <= u.length -> NPr (yd (zf ts) u (ye n s)) := fun h => by
  have nd : qX (zf ts) n x s := fun y hy e => by
   have := u1.2 y hy (e.trans xs)
   omega
  have := WB hg x.length x s rfl hs x1 nd
  intro k
  rw [<- neg k]
  exact this k
 have up : u.length <= x.length -> NNr (yd (zf ts) u (ye n s)) := fun h => by
  have nd : qX (zf ts) n u s := fun y hy e => by
   have := x1.2 y hy (e.trans x2.symm)
   omega
  exact WB hg u.length u s rfl hs u1 nd
 rw [<- eu]
 rcases Nat.lt_trichotomy x.length u.length with c | c | c
 ·right
  refine ⟨down (by omega), by omega, x, x1, ew, by omega⟩
 ·exact absurd (down (by omega)) ((up (by omega)).notP (qL u1.1 hs))
 ·left
  exact ⟨up (by omega), x, x1, ew, by omega⟩
theorem YN {w : List Nat} (hw : InW n w) {s : Nat} (hs : s < n) : NNr (yd (zf ts) w (ye n s)) \/ NPr (yd (zf ts) w (ye n s)) := by
 obtain ⟨l, hl⟩ := Lth.ex (ts := ts) hw
 rcases wI hg hw hs hl with h | h
 ·exact .inl h.1
 ·exact .inr h.1
theorem QO {w : List Nat} (hw : InW n w) {l : Nat} (hl : Lth ts n w l) (h : 1 <= l) : ∃ s, s < n /\ NPr (yd (zf ts) w (ye n s)) := by
 obtain ⟨u, u1, u2, rfl⟩ := hl
 have hne : u ≠ [] := fun e => by subst e; simp at h
 obtain ⟨v, t, rfl⟩ : ∃ v t, u = v ++ [t] := ⟨u.dropLast, u.getLast hne, (List.dropLast_concat_getLast hne).symm⟩
 have ht : t < n := u1.1 t (by simp)
 refine ⟨t, ht, ?_⟩
 rcases wI hg hw ht ⟨v ++ [t], u1, u2, rfl⟩ with ⟨_, h'⟩ | h'
 ·have e : Eqv (zf ts) n v (w ++ [t]) := (We (zW ts) ht).symm.trans (u2.app (Eqv.rfl' _))
  have := h'.le u1.1.left e
  simp only [g0i, g1k] at this
  omega
 ·exact h'.1
end
def G5 (r : List Gd) : Bool := WH 1 r && !WH (-1) r
def kR (r : List Gd) : Bool := WH (-1) r && !WH 1 r
theorem NNr.abv {r : List Gd} (h : NNr r) (hz : Nz r) : G5 r = true /\ kR r = false := by simp [G5, kR, h.no, h.yes hz]
theorem NPr.blw {r : List Gd} (h : NPr r) (hz : Nz r) : G5 r = false /\ kR r = true := by simp [G5, kR, h.no, h.yes hz]
def xW (ts : List T3) (n : Nat) : List Nat -> List Nat -> List Bool
 | _, [] => []
 | pre, s :: w => G5 (yd (zf ts) pre (ye n s)) :: xW ts n (pre ++ [s]) w
def QK : List Bool -> Int
 | [] => 0
 | b :: l => (if b = true then 1 else -1) + QK l
theorem jd (ts : List T3) (n : Nat) : ∀ (w pre : List Nat), (xW ts n pre w).length = w.length
 | [], _ => rfl
 | s :: w, pre => by rw [xW, g0d, jd ts n w, g0d]
theorem QJ : ∀ l : List Bool, QK l <= l.length /\ (QK l = l.length ↔ l.all id = true) /\ (QK l - l.length) % 2 = 0
 | [] => by simp [QK]
 | b :: l => by
  obtain ⟨h1, h2, h3⟩ := QJ l
  cases b
  ·simp only [QK, g0l, if_false, g0d, List.all_cons, id, Bool.false_and, iff_false]
   refine ⟨by omega, by omega, by omega⟩
  ·simp only [QK, if_true, g0d, List.all_cons, id, Bool.true_and]
   refine ⟨by omega, ?_, by omega⟩
   rw [<- h2]
   omega
theorem WO {ts : List T3} {n : Nat} (hg : yw ts) : ∀ (w pre : List Nat) {l l' : Nat}, InW n pre -> InW n w -> Lth ts n pre l -> Lth ts n (pre ++ w) l' -> (l' : Int) = l + QK (xW ts n pre w)
 | [], pre, l, l', hp, hw, h1, h2 => by
  rw [g0t] at h2
  have := h1.uniq h2
  simp [xW, QK, this]
 | s :: w, pre, l, l', hp, hw, h1, h2 => by
  have hs : s < n := hw s g0s
  have hw' : InW n w := fun i hi => hw i (g0m _ hi)
  have h2' : Lth ts n ((pre ++ [s]) ++ w) l' := by simpa using h2
  have nz := qL (ts := ts) hp hs
  rw [xW, QK]
  rcases wI hg hp hs h1 with ⟨a, b⟩ | ⟨a, b, c⟩
  ·have ih := WO hg w (pre ++ [s]) (hp.app (InW.one hs)) hw' b h2'
   rw [(a.abv nz).1, if_pos rfl]
   omega
  ·have ih := WO hg w (pre ++ [s]) (hp.app (InW.one hs)) hw' c h2'
   rw [(a.blw nz).1]
   simp only [g0l, if_false]
   omega
theorem KL {ts : List T3} {n : Nat} (hg : yw ts) {w : List Nat} (hw : InW n w) {l : Nat} (h : Lth ts n w l) : QK (xW ts n [] w) = l := by
 have := WO hg w [] (fun i hi => by cases hi) hw Lth.nil (by rw [g0n]; exact h)
 omega
section
variable (ts : List T3) (n : Nat)
def qf (u : List Nat) : Option Nat := (g1e n).find? fun i => kR (yd (zf ts) u (ye n i))
inductive Lst : List Nat -> List Nat -> Prop
 | nil {u : List Nat} (h : qf ts n u = none) : Lst u []
 | cons {u v : List Nat} {i : Nat} (h : qf ts n u = some i) (t : Lst (u ++ [i]) v) : Lst u (i :: v)
end
variable {ts : List T3} {n : Nat}
theorem Lst.split : ∀ {a u : List Nat} {b : List Nat}, Lst ts n u (a ++ b) -> Lst ts n (u ++ a) b
 | [], u, b, h => by rw [g0t]; exact h
 | i :: a, u, b, h => by
  cases h with
  | cons h t =>
   have := Lst.split (a := a) t
   rwa [g0x] at this
theorem uH {u : List Nat} {i : Nat} (h : qf ts n u = some i) : i < n /\ kR (yd (zf ts) u (ye n i)) = true /\ ∀ j, j < i -> kR (yd (zf ts) u (ye n j)) = false := by
 unfold qf at h
 have h1 := List.mem_of_find?_eq_some h
 have h2 := List.find?_some h
 refine ⟨List.mem_range.mp h1, h2, fun j hj => ?_⟩
 rw [List.find?_range_eq_some] at h
 have := h.2.2 j hj
 simpa using this
theorem Vp {u : List Nat} (h : qf ts n u = none) {i : Nat} (hi : i < n) : kR (yd (zf ts) u (ye n i)) = false := by
 unfold qf at h
 rw [List.find?_eq_none] at h
 have := h i (List.mem_range.mpr hi)
 simpa using this
theorem J6 {u : List Nat} {i : Nat} (hi : i < n) (h : kR (yd (zf ts) u (ye n i)) = true) : ∃ j, qf ts n u = some j := by
 cases e : qf ts n u with
 | some j => exact ⟨j, rfl⟩
 | none => rw [Vp e hi] at h; cases h
theorem Hw (hg : yw ts) : ∀ (l : Nat) {u : List Nat}, InW n u -> Lth ts n u l -> ∃ v, Lst ts n u v /\ v.length = l /\ InW n v /\ Eqv (zf ts) n (u ++ v) []
 | 0, u, hu, hl => by
  refine ⟨[], .nil ?_, rfl, (fun i hi => by cases hi), by rw [g0t]; exact hl.zero⟩
  unfold qf
  rw [List.find?_eq_none]
  intro i hi
  have hi' := List.mem_range.mp hi
  rcases wI hg hu hi' hl with ⟨a, _⟩ | ⟨_, b, _⟩
  ·rw [(a.abv (qL hu hi')).2]; decide
  ·omega
 | l + 1, u, hu, hl => by
  obtain ⟨s, hs, hp⟩ := QO hg hu hl (by omega)
  obtain ⟨i, hi⟩ := J6 hs (hp.blw (qL hu hs)).2
  obtain ⟨h1, h2, _⟩ := uH hi
  have hL : Lth ts n (u ++ [i]) l := by
   rcases wI hg hu h1 hl with ⟨a, _⟩ | ⟨_, _, c⟩
   ·rw [(a.abv (qL hu h1)).2] at h2; cases h2
   ·exact c
  obtain ⟨v, v1, v2, v3, v4⟩ := Hw hg l (hu.app (InW.one h1)) hL
  refine ⟨i :: v, .cons hi v1, by rw [g0d, v2], v3.cons h1, ?_⟩
  rw [g0x] at v4
  exact v4
theorem Y3 (hg : yw ts) {w : List Nat} (hw : InW n w) : ∃ (v : List Nat) (l : Nat), Lst ts n w.reverse v /\ InW n v /\ Eqv (zf ts) n v w /\ Lth ts n v l /\ v.length = l /\ l <= w.length := by
 obtain ⟨l, hl⟩ := Lth.ex (ts := ts) hw
 obtain ⟨v, v1, v2, v3, v4⟩ := Hw hg l hw.rev (hl.rev hw)
 have e : Eqv (zf ts) n v w := by
  have a1 : Eqv (zf ts) n (w ++ (w.reverse ++ v)) (w ++ []) := (Eqv.rfl' _).app v4
  have a2 : Eqv (zf ts) n ((w ++ w.reverse) ++ v) ([] ++ v) := (jt (zW ts) hw).app (Eqv.rfl' _)
  rw [g0t] at a1
  rw [g0x, g0n] at a2
  exact a2.symm.trans a1
 exact ⟨v, l, v1, v3, e, hl.cong e.symm, v2, hl.le hw (Eqv.rfl' _)⟩
end GH
namespace GH
theorem UG {n i k : Nat} (c : Gd) (hk : k < n) : (rsc c (ye n i)).getD k (0, 0) = if k = i then c else (0, 0) := by
 rw [xE, xC hk]
 split
 ·exact kM c
 ·exact jr c
section
variable {ts : List T3} {n : Nat}
def Sh (ts : List T3) (n : Nat) (w : List Nat) : Prop := InW n w /\ Lth ts n w w.length
theorem Sh.cut {a b c : List Nat} (h : Sh ts n (a ++ b ++ c)) : Sh ts n b := by
 obtain ⟨h1, h2⟩ := h
 have hb : InW n b := h1.left.right
 obtain ⟨l, hl⟩ := Lth.ex (ts := ts) hb
 refine ⟨hb, ?_⟩
 have hl' := hl
 obtain ⟨v, v1, v2, v3⟩ := hl'
 have e : Eqv (zf ts) n (a ++ v ++ c) (a ++ b ++ c) := ((Eqv.rfl' _).app v2).app (Eqv.rfl' _)
 have := h2.le ((h1.left.left.app v1.1).app h1.right) e
 simp only [g0i] at this
 have h3 := hl.le hb (Eqv.rfl' _)
 have : l = b.length := by omega
 rw [<- this]
 exact hl
theorem Sh.rev {a : List Nat} (h : Sh ts n a) : Sh ts n a.reverse := ⟨h.1.rev, by rw [g1s]; exact h.2.rev h.1⟩
theorem Sh.up (hg : yw ts) {u : List Nat} {s : Nat} (h : Sh ts n (u ++ [s])) : NNr (yd (zf ts) u (ye n s)) := by
 have hs : s < n := h.1 s (by simp)
 have hu : Sh ts n u := Sh.cut (a := []) (c := [s]) (by simpa using h)
 rcases wI hg hu.1 hs hu.2 with ⟨a, _⟩ | ⟨_, b, c⟩
 ·exact a
 ·have := c.uniq h.2
  simp only [g0i, g1k] at this
  omega
end
section
variable {ts : List T3} {n : Nat}
end
section
variable {ts : List T3} {n : Nat}
def Zl (n m : Nat) (r : List Gd) : List Gd := (g1e n).map fun k => if k < m then r.getD k (0, 0) else (0, 0)
theorem yp (n m : Nat) (r : List Gd) : (Zl n m r).length = n := by simp [Zl]
theorem jk {n m : Nat} (r : List Gd) {k : Nat} (hk : k < n) : (Zl n m r).getD k (0, 0) = if k < m then r.getD k (0, 0) else (0, 0) := by
 simp [Zl, g0k, hk]
theorem UP {n m : Nat} (hm : m < n) (r : List Gd) : Zl n (m + 1) r = Xo (Zl n m r) (rsc (r.getD m (0, 0)) (ye n m)) := by
 have hl : (Zl n m r).length = (rsc (r.getD m (0, 0)) (ye n m)).length := by rw [zK, zh, yp]
 apply vU (by rw [xG hl, yp, yp])
 intro k hk
 rw [yp] at hk
 rw [w6 hl, jk r hk, jk r hk, UG _ hk]
 by_cases c : k = m
 ·subst c
  simp [yD]
 ·by_cases c2 : k < m
  ·rw [if_pos (by omega), if_pos c2, if_neg c, xY]
  ·rw [if_neg (by omega), if_neg c2, if_neg c, xY]
theorem Jg {n : Nat} {r : List Gd} (h : r.length = n) : Zl n n r = r := by
 apply vU (by rw [yp, h])
 intro k hk
 rw [yp] at hk
 rw [jk r hk, if_pos hk]
theorem J3 (x y : Gd) : yL (yM x y) = yM (yL x) y := by
 simp only [yL, yM, Prod.mk.injEq]; constructor <;> grind
theorem Vc : nn (0, 0) := .inl rfl
theorem Dy {u : List Nat} (hu : InW n u) {r : List Gd} (hr : r.length = n) (hp : NPr r) (h : ∀ k, k < n -> r.getD k (0, 0) = (0, 0) \/ NNr (yd (zf ts) u (ye n k))) : NPr (yd (zf ts) u r) := by
 have main : ∀ m, m <= n -> NPr (yd (zf ts) u (Zl n m r)) := by
  intro m
  induction m with
  | zero =>
   intro _ k
   have := V9 (ts := ts) (w := u) (r := Zl n 0 r) (by rw [yp]; exact hu) (fun k => by
    by_cases hk : k < n
    ·rw [jk r hk, if_neg (by omega)]
    ·rw [g0k, g1d (by rw [yp]; omega)]; rfl) k
   rw [this]
   exact .inl rfl
  | succ m ih =>
   intro hm k
   have hl : (Zl n m r).length = (rsc (r.getD m (0, 0)) (ye n m)).length := by rw [zK, zh, yp]
   rw [UP (by omega) r, kK _ _ hl (by rw [yp]; exact hu), u7 _ _ _ (by rw [zh]; exact hu), w6 (by rw [zG, zK, zG, zh, yp]), xE, J4]
   refine Jz (ih (by omega) k) ?_
   rw [J3]
   rcases h m (by omega) with z | z
   ·rw [z]
    have : yM (yL (0, 0)) ((yd (zf ts) u (ye n m)).getD k (0, 0)) = (0, 0) := by simp [yL, yM]
    rw [this]
    exact .inl rfl
   ·exact Jy (hp m) (z k)
 have := main n (g0r _)
 rwa [Jg hr] at this
theorem Dz {u : List Nat} (hu : InW n u) {r : List Gd} (hr : r.length = n) (hp : NNr r) (h : ∀ k, k < n -> r.getD k (0, 0) = (0, 0) \/ NNr (yd (zf ts) u (ye n k))) : NNr (yd (zf ts) u r) := by
 have hneg : ∀ k, (rsc (-1, 0) r).getD k (0, 0) = yL (r.getD k (0, 0)) := fun k => by
  rw [xE]; simp [yM, yL]
 have h1 : NPr (yd (zf ts) u (rsc (-1, 0) r)) := Dy hu (by rw [zK, hr]) (fun k => by
  rw [hneg]
  have : yL (yL (r.getD k (0, 0))) = r.getD k (0, 0) := by simp [yL]
  rw [this]
  exact hp k) fun k hk => by
   rcases h k hk with z | z
   ·left
    rw [hneg, z]
    rfl
   ·exact .inr z
 rw [u7 _ _ _ (by rw [hr]; exact hu)] at h1
 intro k
 have := h1 k
 rw [xE] at this
 have e : yL (yM (-1, 0) ((yd (zf ts) u r).getD k (0, 0))) = (yd (zf ts) u r).getD k (0, 0) := by simp [yM, yL]
 rwa [e] at this
theorem JL {k : Nat} : ∀ {w : List Nat} {r : List Gd}, InW r.length w -> k ∉ w -> (yd (zf ts) w r).getD k (0, 0) = r.getD k (0, 0)
 | [], r, _, _ => rfl
 | i :: w, r, hw, hk => by
  have hw' : InW r.length w := fun j hj => hw j (g0m _ hj)
  have hi : i < r.length := hw i g0s
  rw [xx, wD _ (by rw [zG]; exact hi), if_neg (fun c => hk (by rw [c]; exact g0s))]
  exact JL hw' fun c => hk (g0m _ c)
theorem Vb {w : List Nat} (hw : InW n w) {i : Nat} (hi : i < n) (h : i ∉ w) : kR (yd (zf ts) w (ye n i)) = false := by
 have e := JL (ts := ts) (w := w) (r := ye n i) (by rw [zh]; exact hw) h
 rw [xC hi, if_pos rfl] at e
 have : WH 1 (yd (zf ts) w (ye n i)) = true := Vl (k := i) (by rw [zG, zh]; exact hi) (by rw [e]; decide)
 simp [kR, this]
theorem Lst.sub {P : Nat -> Prop} {u v : List Nat} (h : Lst ts n u v) : InW n u -> (∀ i ∈ u, P i) -> ∀ i ∈ v, P i := by
 induction h with
 | nil _ => intro _ _ i hi; cases hi
 | @cons u v i h t ih =>
  intro hu hp j hj
  obtain ⟨hi, hb, _⟩ := uH h
  have hm : i ∈ u := by
   apply Classical.byContradiction
   intro c
   rw [Vb hu hi c] at hb
   cases hb
  rcases g0q.mp hj with rfl | hj
  ·exact hp _ hm
  ·refine ih (hu.app (InW.one hi)) (fun k hk => ?_) j hj
   rcases g1m.mp hk with hk | hk
   ·exact hp k hk
   ·rw [List.mem_singleton.mp hk]; exact hp _ hm
def Qe (ts : List T3) (n : Nat) (part u : List Nat) : List Nat := part.filter fun i => kR (yd (zf ts) u (ye n i))
inductive Rm (ts : List T3) (n : Nat) (part : List Nat) : List Nat -> List Nat -> Prop
 | nil {u : List Nat} (h : Qe ts n part u = []) : Rm ts n part u []
 | cons {u s : List Nat} {i : Nat} {r : List Nat} (h : Qe ts n part u = i :: r) (t : Rm ts n part (u ++ [i]) s) : Rm ts n part u (i :: s)
theorem Wd {part u : List Nat} {i : Nat} : i ∈ Qe ts n part u ↔ i ∈ part /\ kR (yd (zf ts) u (ye n i)) = true := by
 simp [Qe]
variable (hg : yw ts)
include hg
theorem Fi {w : List Nat} (hw : InW n w) {s : Nat} (hs : s < n) (h : kR (yd (zf ts) w (ye n s)) = true) : NPr (yd (zf ts) w (ye n s)) := by
 rcases YN hg hw hs with c | c
 ·rw [(c.abv (qL hw hs)).2] at h; cases h
 ·exact c
theorem BG {w : List Nat} (hw : InW n w) {s : Nat} (hs : s < n) (h : kR (yd (zf ts) w (ye n s)) = false) : NNr (yd (zf ts) w (ye n s)) := by
 rcases YN hg hw hs with c | c
 ·exact c
 ·rw [(c.blw (qL hw hs)).2] at h; cases h
theorem C0 {part : List Nat} (hp : InW n part) : ∀ (l : Nat) {u : List Nat}, InW n u -> Lth ts n u l -> ∃ s k, Rm ts n part u s /\ s.length + k = l /\ (∀ i ∈ s, i ∈ part) /\ Lth ts n (u ++ s) k /\ ∀ i ∈ part, NNr (yd (zf ts) (u ++ s) (ye n i))
 | l, u, hu, hl => by
  cases e : Qe ts n part u with
  | nil =>
   refine ⟨[], l, .nil e, by simp, (fun i hi => by cases hi), by rw [g0t]; exact hl, fun i hi => ?_⟩
   rw [g0t]
   refine BG hg hu (hp i hi) ?_
   cases c : kR (yd (zf ts) u (ye n i)) with
   | false => rfl
   | true =>
    have := Wd.mpr ⟨hi, c⟩
    rw [e] at this
    cases this
  | cons i r =>
   have hm : i ∈ Qe ts n part u := by rw [e]; exact g0s
   obtain ⟨h1, h2⟩ := Wd.mp hm
   have hi := hp i h1
   have hn := Fi hg hu hi h2
   rcases wI hg hu hi hl with ⟨c, _⟩ | ⟨_, c2, c3⟩
   ·exact absurd hn (c.notP (qL hu hi))
   ·have hlt : l - 1 < l := by omega
    obtain ⟨s, k, a1, a2, a3, a4, a5⟩ := C0 hp (l - 1) (hu.app (InW.one hi)) c3
    refine ⟨i :: s, k, .cons e a1, by rw [g0d]; omega, fun j hj => ?_, ?_, ?_⟩
    ·rcases g0q.mp hj with rfl | hj
     ·exact h1
     ·exact a3 j hj
    ·rwa [g0x, g2v] at a4
    ·rwa [g0x, g2v] at a5
theorem Ba {part : List Nat} (hp : InW n part) {w : List Nat} (hw : InW n w) : ∃ s o i, Rm ts n part w s /\ s.length <= w.length /\ (∀ x ∈ s, x ∈ part) /\ Lst ts n (w ++ s).reverse o /\ Lst ts n s.reverse.reverse i /\ InW n o /\ InW n i /\ (∀ x ∈ i, x ∈ part) ∧
  Eqv (zf ts) n (o ++ i) w /\ Lth ts n (o ++ i) (o ++ i).length /\ (∀ x ∈ part, NNr (yd (zf ts) o (ye n x))) /\ (o ++ i).length <= w.length /\ Eqv (zf ts) n o (w ++ s) /\ Eqv (zf ts) n i s.reverse /\ (∀ x ∈ part, NNr (yd (zf ts) (w ++ s) (ye n x))) := by
 have h2 := zW ts
 obtain ⟨l, hl⟩ := Lth.ex (ts := ts) hw
 obtain ⟨s, k, a1, a2, a3, a4, a5⟩ := C0 hg hp l hw hl
 have hs : InW n s := fun x hx => hp x (a3 x hx)
 obtain ⟨o, lo, o1, o2, o3, o4, o5, o6⟩ := Y3 hg (hw.app hs)
 obtain ⟨i, li, i1, i2, i3, i4, i5, i6⟩ := Y3 hg hs.rev
 have e : Eqv (zf ts) n (o ++ i) w := by
  have := o3.app i3
  rw [g0x] at this
  exact this.trans (((Eqv.rfl' w).app (jt h2 hs)).trans (by rw [g0t]; exact Eqv.rfl' _))
 have hlw := hl.le hw (Eqv.rfl' _)
 have hlo : lo = k := (o4.cong o3).uniq a4
 have hle := hl.le (o2.app i2) e
 rw [g0i] at hle
 rw [g1s] at i6
 have hi : ∀ x ∈ i, x ∈ part := i1.sub (by rw [g2b]; exact hs) (by rw [g2b]; exact a3)
 refine ⟨s, o, i, a1, by omega, a3, o1, i1, o2, i2, hi, e, ?_, fun x hx => ?_, by rw [g0i]; omega, o3, i3, a5⟩
 ·have : (o ++ i).length = l := by rw [g0i]; omega
  rw [this]
  exact hl.cong e.symm
 ·rw [o3 _ (zh n x)]
  exact a5 x hx
end
section
variable {ts : List T3} {n : Nat}
end
section
variable {ts : List T3} {n : Nat}
variable (hg : yw ts)
include hg
theorem BB {u : List Nat} (hu : InW n u) {s : Nat} (hs : s < n) (h : NNr (yd (zf ts) u (ye n s))) : NPr (yd (zf ts) (u ++ [s]) (ye n s)) := fun k => by
 rw [JM hu hs k]
 have : yL (yL ((yd (zf ts) u (ye n s)).getD k (0, 0))) = (yd (zf ts) u (ye n s)).getD k (0, 0) := by simp [yL]
 rw [this]
 exact h k
theorem BC {u v : List Nat} (e : Eqv (zf ts) n u v) {s : Nat} (h : NPr (yd (zf ts) u (ye n s))) : NPr (yd (zf ts) v (ye n s)) := by
 rw [<- e _ (zh n s)]; exact h
end
theorem KO (s t : Nat) (b : Bool) : sel t s b = sel s t (!b) := by cases b <;> rfl
theorem Y1 (s t : Nat) (l : List Bool) : l.map (sel t s) = (l.map (!·)).map (sel s t) := by
 rw [g1n]
 apply g2g
 intro b _
 exact KO s t b
section
variable {ts : List T3} {n : Nat}
theorem Cv {s t : Nat} (hs : s < n) (ht : t < n) (l : List Bool) : InW n (l.map (sel s t)) := fun i hi => by
 obtain ⟨b, _, rfl⟩ := g2k.mp hi
 cases b <;> simp [sel] <;> assumption
theorem VZ {s t : Nat} (hs : s < n) (ht : t < n) (x y : List Bool) (b : Bool) : Eqv (zf ts) n ((x ++ y).map (sel s t)) ((x ++ b :: b :: y).map (sel s t)) := by
 rw [g1u, g1u]
 refine (Eqv.rfl' _).app ?_
 have hb : sel s t b < n := Cv hs ht [b] _ (by simp)
 have := (Eqv.twice (n := n) (zW ts) hb).symm.app (Eqv.rfl' (A := zf ts) (y.map (sel s t)))
 simpa using this
theorem Cm {s t : Nat} (hst : s ≠ t) (hs : s < n) (ht : t < n) {m : Nat} (em : yJ ts s t = (m : Int)) (hm : 2 <= m /\ m <= 6) : Eqv (zf ts) n ((alt m).map (sel s t)) ((alt m).map (sel t s)) := by
 have h2 := zW ts
 obtain ⟨p1, p2⟩ := YQ ts hst
 rw [em] at p1 p2
 obtain ⟨b1, b2⟩ := ZI (decide (s < t)) hm
 rw [<- p1, <- p2] at b1 b2
 rw [Y1 s t]
 exact js (n := n) hst (h2 s) (h2 t) hs ht b1 b2
theorem Fk {s t : Nat} (hst : s ≠ t) (hs : s < n) (ht : t < n) {m k : Nat} (em : yJ ts s t = (m : Int)) (hm : 2 <= m /\ m <= 6) (h : Sh ts n ((alt k).map (sel s t))) : k <= m := by
 apply g3d.mp
 intro hlt
 obtain ⟨pre, e⟩ := ZK (m := m + 1) (k := k) (by omega)
 obtain ⟨j, rfl⟩ : ∃ j, m = j + 1 := ⟨m - 1, by omega⟩
 have e1 : (alt (j + 1)).map (!·) = decide ((j + 1) % 2 = 1) :: (alt j).map (!·) := by
  rw [alt, g0f]
  congr 1
  by_cases c : j % 2 = 1
  ·have c2 : ¬ ((j + 1) % 2 = 1) := by omega
   simp [c, c2]
  ·have c2 : (j + 1) % 2 = 1 := by omega
   simp [c, c2]
 have br := Cm (ts := ts) (n := n) hst hs ht em hm
 rw [Y1 s t, e1] at br
 have e2 : Eqv (zf ts) n ((pre ++ (alt j).map (!·)).map (sel s t)) ((alt k).map (sel s t)) := by
  rw [e, alt]
  refine (VZ hs ht pre ((alt j).map (!·)) (decide ((j + 1) % 2 = 1))).trans ?_
  rw [g1u, g1u, g0f, g0f (l := alt (j + 1))]
  refine (Eqv.rfl' _).app ?_
  exact (Eqv.rfl' [sel s t (decide ((j + 1) % 2 = 1))]).app br.symm
 have := h.2.le (Cv hs ht _) e2
 have hk := congrArg g3c e
 rw [g0i, wz, wz] at hk
 simp only [g1j, g0i, wz] at this
 omega
variable (hg : yw ts)
include hg
theorem Co {s t : Nat} (hst : s ≠ t) (hs : s < n) (ht : t < n) {o : List Nat} {k : Nat} (h : Sh ts n (o ++ (alt k).map (sel s t))) (h1 : NNr (yd (zf ts) o (ye n s))) (h2 : NNr (yd (zf ts) o (ye n t))) (hd : NPr (yd (zf ts) (o ++ (alt k).map (sel s t)) (ye n s))) : ∃ m : Nat, yJ ts s t = (m : Int) /\ (2 <= m /\ m <= 6) /\ k = m := by
 have hp2 := zW ts
 have ho : InW n o := h.1.left
 have hsi : Sh ts n ((alt k).map (sel s t)) := Sh.cut (a := o) (b := (alt k).map (sel s t)) (c := []) (by simpa using h)
 obtain ⟨p1, p2⟩ := YQ ts hst
 have no : ¬ PQ (pqA (zf ts s t) (zf ts t s) k) := fun hpq => by
  have le := Vg hst (hp2 s) (hp2 t) hs ht k
  have hnn : NNr (yd (zf ts) (o ++ (alt k).map (sel s t)) (ye n s)) := by
   rw [xh, le]
   refine Dz ho (yF _ _ _ _ _) (fun j => ?_) fun j hj => ?_
   ·by_cases hj : j < n
    ·rw [va _ _ hj]
     refine Jz ?_ ?_
     ·split
      ·exact hpq.1
      ·exact Vc
     ·split
      ·exact hpq.2.1
      ·exact Vc
    ·rw [g0k, g1d (by rw [yF]; omega)]
     exact Vc
   ·by_cases c1 : j = s
    ·subst c1; exact .inr h1
    ·by_cases c2 : j = t
     ·subst c2; exact .inr h2
     ·left
      rw [va _ _ hj, if_neg c1, if_neg c2, xY]
  exact hnn.notP (qL h.1 hs) hd
 rcases v7 hg (s : Int) (t : Int) with g0 | gt
 ·rw [g0] at p1 p2
  have q1 : zI 0 (decide (s < t)) = (-2, 0) := by cases decide (s < t) <;> rfl
  have q2 : zI 0 (!decide (s < t)) = (-2, 0) := by cases decide (s < t) <;> rfl
  rw [p1, p2, q1, q2] at no
  exact absurd (Zg k) no
 ·obtain ⟨m, em⟩ : ∃ m : Nat, yJ ts s t = (m : Int) := ⟨(yJ ts s t).toNat, by omega⟩
  rw [em] at p1 p2 gt
  have hm : 2 <= m /\ m <= 6 := by omega
  refine ⟨m, em, hm, Nat.le_antisymm (Fk hst hs ht em hm hsi) (g3d.mp fun hlt => ?_)⟩
  rw [p1, p2] at no
  exact no (Hi _ hm hlt)
theorem KG {v : List Nat} (hv : Sh ts n v) {s t : Nat} (hst : s ≠ t) (hs : s < n) (ht : t < n) (d1 : NPr (yd (zf ts) v (ye n s))) (d2 : NPr (yd (zf ts) v (ye n t))) :
  ∃ (c : List Nat) (m : Nat), yJ ts s t = (m : Int) /\ (2 <= m /\ m <= 6) /\ InW n c /\ Sh ts n (c ++ (alt m).map (sel s t)) /\ Eqv (zf ts) n (c ++ (alt m).map (sel s t)) v /\ Sh ts n (c ++ (alt m).map (sel t s)) /\ Eqv (zf ts) n (c ++ (alt m).map (sel t s)) v := by
 have hp2 := zW ts
 obtain ⟨_, o, i, _, _, _, _, _, r6, r7, r8, r9, r10, r11, _, _, _, _⟩ := Ba hg (part := [s, t]) (fun x hx => by
  have : x = s \/ x = t := by simpa using hx
  rcases this with rfl | rfl <;> assumption) hv.1
 have os := r11 s (by simp)
 have ot := r11 t (by simp)
 have hsh : Sh ts n (o ++ i) := ⟨r6.app r7, r10⟩
 have hi : Sh ts n i := Sh.cut (a := o) (b := i) (c := []) (by simpa using hsh)
 obtain ⟨a, ha⟩ : ∃ a : List Bool, i = a.map (sel s t) := ⟨i.map fun x => decide (x = s), by
  rw [g1n]
  have : i.map (sel s t ∘ fun x => decide (x = s)) = i.map id := by
   apply g2g
   intro x hx
   have : x = s \/ x = t := by simpa using r8 x hx
   rcases this with rfl | rfl
   ·simp [sel]
   ·simp [sel, Ne.symm hst]
  rw [this, List.map_id]⟩
 subst ha
 have a1 : ∀ x b y, a ≠ x ++ b :: b :: y := fun x b y e => by
  have := hi.2.le (Cv hs ht (x ++ y)) (by rw [e]; exact VZ hs ht x y b)
  rw [e] at this
  simp only [g1j, g0i, g0d] at this
  omega
 have fin : ∀ {s t : Nat}, s ≠ t -> s < n -> t < n -> NPr (yd (zf ts) v (ye n s)) -> NNr (yd (zf ts) o (ye n s)) -> NNr (yd (zf ts) o (ye n t)) -> ∀ k, Sh ts n (o ++ (alt k).map (sel s t)) -> Eqv (zf ts) n (o ++ (alt k).map (sel s t)) v →
   ∃ m : Nat, yJ ts s t = (m : Int) /\ (2 <= m /\ m <= 6) /\ Sh ts n (o ++ (alt m).map (sel s t)) /\ Eqv (zf ts) n (o ++ (alt m).map (sel s t)) v /\ Sh ts n (o ++ (alt m).map (sel t s)) /\ Eqv (zf ts) n (o ++ (alt m).map (sel t s)) v := by
  intro s t hst hs ht d1 os ot k h1 h2
  obtain ⟨m, em, hm, rfl⟩ := Co hg hst hs ht h1 os ot (by rw [h2 _ (zh n s)]; exact d1)
  have br := (Eqv.rfl' (A := zf ts) (n := n) o).app (Cm (ts := ts) (n := n) hst hs ht em hm)
  refine ⟨k, em, hm, h1, h2, ⟨r6.app (Cv ht hs _), ?_⟩, br.symm.trans h2⟩
  have l : (o ++ (alt k).map (sel t s)).length = (o ++ (alt k).map (sel s t)).length := by simp
  rw [l]
  exact h1.2.cong br
 by_cases c : ∃ x, a = x ++ [true]
 ·obtain ⟨x, hx⟩ := c
  have e : a.map (!·) = alt (a.map (!·)).length := Uq _ (fun x b y e => by
   have e2 := congrArg (List.map (!·)) e
   rw [g1n] at e2
   have e3 : (a.map ((!·) ∘ (!·))) = a := by
    have : ((fun b : Bool => !b) ∘ fun b => !b) = id := by funext b; simp
    rw [this, List.map_id]
   rw [e3] at e2
   exact a1 (x.map (!·)) (!b) (y.map (!·)) (by simpa using e2)) (fun y e => by
   have e2 := congrArg List.getLast? e
   rw [hx] at e2
   simp at e2)
  have e4 : a.map (sel s t) = (alt (a.map (!·)).length).map (sel t s) := by
   rw [<- e, Y1 t s, g1n]
  rw [e4] at hsh r9
  obtain ⟨m, em, hm, g1, g2, g3, g4⟩ := fin (Ne.symm hst) ht hs d2 ot os _ hsh r9
  exact ⟨o, m, by rw [jD]; exact em, hm, r6, g3, g4, g1, g2⟩
 ·have e := Uq a a1 fun x e => c ⟨x, e⟩
  rw [e] at hsh r9
  obtain ⟨m, em, hm, g1, g2, g3, g4⟩ := fin hst hs ht d1 os ot _ hsh r9
  exact ⟨o, m, em, hm, r6, g1, g2, g3, g4⟩
theorem JP {a : List Nat} {s : Nat} (h : Sh ts n (a ++ [s])) : NPr (yd (zf ts) (a ++ [s]) (ye n s)) := BB hg h.1.left (h.1 s (by simp)) (Sh.up hg h)
end
def wG (i j m : Nat) : List Nat := (g1e m).map fun k => if k % 2 = 0 then i else j
theorem yG (i j m : Nat) : (wG i j m).length = m := by simp [wG]
theorem Ku (i j : Nat) {k m : Nat} (h : k <= m) : (wG i j m).take k = wG i j k := by
 unfold wG
 rw [<- List.map_take, List.take_range, g2p h]
theorem Kt : ∀ m, (alt m).reverse = (g1e m).map fun k => decide (k % 2 = 1)
 | 0 => rfl
 | m + 1 => by
  rw [alt, g2f, Kt m, List.range_succ, g1u]
  rfl
theorem Xg (s t m : Nat) : ((alt m).map (sel s t)).reverse = wG t s m := by
 rw [<- List.map_reverse, Kt, g1n]
 unfold wG
 apply g2g
 intro k _
 simp only [Function.comp, sel]
 by_cases c : k % 2 = 1
 ·have : ¬ (k % 2 = 0) := by omega
  simp [c]
 ·have c2 : k % 2 = 0 := by omega
  simp [c2]
section
variable {ts : List T3} {n : Nat}
def Dn (ts : List T3) (n : Nat) (s : List Nat) (t : Nat) : Prop := ∃ r, InW n r /\ Eqv (zf ts) n (t :: r) s /\ r.length + 1 = s.length
theorem Sh.of {s u : List Nat} (h : Sh ts n s) (hu : InW n u) (e : Eqv (zf ts) n u s) (hl : u.length = s.length) : Sh ts n u := ⟨hu, by rw [hl]; exact h.2.cong e.symm⟩
theorem Uk {x a b : List Nat} (hx : InW n x) (e : Eqv (zf ts) n (x ++ a) (x ++ b)) : Eqv (zf ts) n a b := by
 have h2 := zW ts
 have k : ∀ y : List Nat, Eqv (zf ts) n (x.reverse ++ (x ++ y)) y := fun y => by
  have := (kN h2 hx).app (Eqv.rfl' (A := zf ts) (n := n) y)
  rw [g0x] at this
  exact this
 exact (k a).symm.trans (((Eqv.rfl' x.reverse).app e).trans (k b))
theorem Xh {i j : Nat} (hi : i < n) (hj : j < n) (m : Nat) : InW n (wG i j m) := fun k hk => by
 obtain ⟨a, _, rfl⟩ := g2k.mp hk
 split <;> assumption
variable (hg : yw ts)
include hg
theorem Dn.np {s : List Nat} {t : Nat} (hs : Sh ts n s) (ht : t < n) (h : Dn ts n s t) : NPr (yd (zf ts) s.reverse (ye n t)) := by
 obtain ⟨r, h1, h2, h3⟩ := h
 have hr : Sh ts n (t :: r) := hs.of (InW.cons ht h1) h2 (by simpa using h3)
 have h4 := hr.rev
 rw [g2f] at h4
 have h5 := JP hg h4
 refine BC hg ?_ h5
 have := Eqv.rev (zW ts) hr.1 hs.1 h2
 rw [g2f] at this
 exact this
theorem KF {s : List Nat} (hs : Sh ts n s) {f t : Nat} (hft : f ≠ t) (hf : f < n) (ht : t < n) (d1 : Dn ts n s f) (d2 : Dn ts n s t) :
  ∃ (c : List Nat) (m : Nat), yJ ts f t = (m : Int) /\ (2 <= m /\ m <= 6) /\ InW n c /\ Eqv (zf ts) n (wG f t m ++ c) s /\ Eqv (zf ts) n (wG f t m) (wG t f m) /\ m + c.length = s.length := by
 obtain ⟨c, m, em, hm, hc, g1, g2, g3, g4⟩ := KG hg hs.rev (Ne.symm hft) ht hf (d2.np hg hs ht) (d1.np hg hs hf)
 have em' : yJ ts f t = (m : Int) := by rw [jD]; exact em
 have e1 := Eqv.rev (zW ts) g1.1 hs.1.rev g2
 rw [List.reverse_append, Xg, g2b] at e1
 have br := Cm (ts := ts) (n := n) (Ne.symm hft) ht hf em hm
 have e2 := Eqv.rev (zW ts) (Cv ht hf _) (Cv hf ht _) br
 rw [Xg, Xg] at e2
 refine ⟨c.reverse, m, em', hm, hc.rev, e1, e2, ?_⟩
 have l1 := g1.2.uniq (hs.rev.2.cong g2.symm)
 simp only [g0i, g1j, wz, g1s] at l1 ⊢
 omega
omit hg in
theorem Dn.head {f : Nat} {r : List Nat} (h : InW n (f :: r)) : Dn ts n (f :: r) f := ⟨r, fun x hx => h x (g0m _ hx), Eqv.rfl' _, rfl⟩
theorem Gr {s c x : List Nat} (hs : Sh ts n s) {f t m k : Nat} (hf : f < n) (ht : t < n) (hk : k < m) (hc : InW n c) (e : Eqv (zf ts) n (wG f t m ++ c) s) (hl : m + c.length = s.length) (hx : InW n x) (ex : Eqv (zf ts) n (wG f t k ++ x) s) (hxl : k + x.length = s.length) :
  Sh ts n x /\ Dn ts n x (if k % 2 = 0 then f else t) := by
 have ha := Xh hf ht (n := n) k
 have h1 : Sh ts n (wG f t k ++ x) := hs.of (ha.app hx) ex (by rw [g0i, yG]; exact hxl)
 have h2 : Sh ts n x := Sh.cut (a := wG f t k) (b := x) (c := []) (by simpa using h1)
 refine ⟨h2, ?_⟩
 have e1 : wG f t m = wG f t k ++ (wG f t m).drop k := by
  rw [<- Ku f t (g2t hk), g2m]
 have e2 : (wG f t m).drop k = (if k % 2 = 0 then f else t) :: (wG f t m).drop (k + 1) := by
  rw [g1f (by rw [yG]; exact hk)]
  congr 1
  simp [wG]
 have e3 : Eqv (zf ts) n (wG f t k ++ x) (wG f t k ++ ((wG f t m).drop k ++ c)) := by
  rw [<- g0x, <- e1]
  exact ex.trans e.symm
 have e4 := Uk ha e3
 rw [e2] at e4
 refine ⟨(wG f t m).drop (k + 1) ++ c, ?_, e4.symm, ?_⟩
 ·exact InW.app (fun y hy => Xh hf ht m y (g2j hy)) hc
 ·rw [g0i, g1v, yG]
  omega
theorem Jv {s : List Nat} (hs : Sh ts n s) {a : Nat} (ha : a < n) (h : ¬ Sh ts n (a :: s)) : Dn ts n s a := by
 have h2 := zW ts
 have hl := hs.2.rev hs.1
 rcases wI hg hs.1.rev ha hl with ⟨_, k⟩ | ⟨_, k0, k⟩
 ·exfalso
  apply h
  have hw : InW n (s.reverse ++ [a]) := hs.1.rev.app (InW.one ha)
  have := k.rev hw
  rw [List.reverse_append, g2b] at this
  exact ⟨InW.cons ha hs.1, this⟩
 ·have hw : InW n (s.reverse ++ [a]) := hs.1.rev.app (InW.one ha)
  have := k.rev hw
  rw [List.reverse_append, g2b] at this
  obtain ⟨u, u1, u2, u3⟩ := this
  refine ⟨u, u1.1, ?_, by omega⟩
  have e : Eqv (zf ts) n ([a] ++ u) ([a] ++ ([a] ++ s)) := (Eqv.rfl' [a]).app u2
  have e2 : Eqv (zf ts) n ([a, a] ++ s) ([] ++ s) := (Eqv.twice h2 ha).app (Eqv.rfl' s)
  exact e.trans e2
theorem Za {w : List Nat} (hw : InW n w) : (xW ts n [] w).all id = true ↔ Sh ts n w := by
 obtain ⟨l, hl⟩ := Lth.ex (ts := ts) hw
 have h1 := KL hg hw hl
 obtain ⟨h2, h3, h4⟩ := QJ (xW ts n [] w)
 rw [jd] at h3
 rw [<- h3, h1]
 constructor
 ·intro e
  have : l = w.length := by omega
  subst this
  exact ⟨hw, hl⟩
 ·intro h
  have := hl.uniq h.2
  omega
end
end GH
namespace Pk52
open PySem PySem.Spec PyProof.Rows L2 FL
def top (i : Nat) : Stmt := PySem.Challenge.pw_mirrorhouse_k52_whole_papers_to_the_leas.main.body.getD i (.Pass ⟨0, 0, 0, 0⟩)
abbrev Z9 : Stmt := top 1
abbrev jI : Stmt := top 2
abbrev jJ : Stmt := top 3
abbrev xJ : Stmt := top 4
abbrev Z7 : Stmt := top 5
abbrev ud : Stmt := top 10
abbrev Z8 : Stmt := top 11
abbrev qw : Stmt := top 15
abbrev ve : Stmt := top 16
abbrev UL : Stmt := top 17
abbrev qB : Stmt := top 18
abbrev uf : Stmt := top 19
abbrev yi : Stmt := top 20
abbrev vn : Stmt := top 21
abbrev vk : Stmt := top 22
abbrev yP : Stmt := top 24
abbrev vj : Stmt := top 25
abbrev xn : Stmt := top 27
abbrev jK : Stmt := top 28
abbrev um : Stmt := top 32
abbrev xP : Stmt := top 33
abbrev wc : Stmt := top 34
abbrev xN : Stmt := top 35
abbrev xO : Stmt := top 36
abbrev qv : Stmt := top 37
abbrev vd : Stmt := top 39
abbrev x9 : Stmt := top 41
abbrev jL : Stmt := top 42
abbrev ug : Stmt := top 43
abbrev uj : Stmt := top 44
abbrev qx : Stmt := top 45
abbrev qA : Stmt := top 46
abbrev uh : Stmt := top 47
abbrev qy : Stmt := top 48
abbrev qz : Stmt := top 49
abbrev jM : Stmt := top 50
abbrev vg : Stmt := top 51
abbrev vi : Stmt := top 52
abbrev uk : Stmt := top 53
abbrev xM : Stmt := top 54
abbrev UM : Stmt := top 55
abbrev ui : Stmt := top 56
abbrev vf : Stmt := top 57
abbrev YL : Stmt := top 58
structure Txt (K : W.Frag) (mg : Str -> Option Value) : Prop where
 base : True
 all_b : mg "all" = none
 bool_b : mg "bool" = none
 enumerate_b : mg "enumerate" = none
 int_b : mg "int" = none
 isinstance_b : mg "isinstance" = none
 len_b : mg "len" = none
 list_b : mg "list" = none
 max_b : mg "max" = none
 min_b : mg "min" = none
 range_b : mg "range" = none
 reversed_b : mg "reversed" = none
 tuple_b : mg "tuple" = none
 zip_b : mg "zip" = none
 DROP_c : ∃ t, mg "DROP" = some (Value.str "drop" t)
 NEVER_c : ∃ t, mg "NEVER" = some (Value.int 0 t)
 NOT_TOLD_c : ∃ t, mg "NOT_TOLD" = some (Value.int 2 t)
 NOUGHT_c : GTup K mg "NOUGHT" [(.int 0), (.int 0)]
 ONE_c : GTup K mg "ONE" [(.int 1), (.int 0)]
 PULLS_BELOW_NOUGHT_c : GDict K mg "PULLS_BELOW_NOUGHT" [(0, (.tup [(.int 2), (.int 0)])), (2, (.tup [(.int 0), (.int 0)])), (3, (.tup [(.int 1), (.int 0)])), (4, (.tup [(.int 2), (.int 0)])), (5, (.tup [(.int 0), (.int 1)])), (6, (.tup [(.int 3), (.int 0)]))]
 TURN_c : ∃ t, mg "TURN" = some (Value.str "turn" t)
noncomputable def Kw : FS := (yv (tupF (zb (zc yV (zc ixD (vF 0) (cF (.int 0))) (zc ixD (vF 1) (cF (.int 0)))) (zb (zc yV (zc ixD (vF 0) (cF (.int 1))) (zc ixD (vF 1) (cF (.int 1)))) zu))))
noncomputable def uQ : List D -> Option D := vJ 2 Kw
theorem HU : FnScope ["x", "y"] ["x", "y"] (zd Z9) := ⟨rfl, rfl, rfl, by decide +kernel, rfl, by decide +kernel, by decide +kernel⟩
section
variable {P : Program} {w : World} {K : W.Frag} {mg : Str -> Option Value} {base : Heap} {f : Addr} {fd : FuncData}
theorem Bz (Fn : Fun K "plus" "plus" Z9 f fd) (T : Txt K mg)  :
  FnOk P w K mg base CX0 1 f fd ["x", "y"] (spF K 2 uQ) :=
 yb (k := 0) (m := 2) (F := Kw) rfl rfl Fn HU fun cdv A outer s H E hr => (zi (zw (xq (za (zV (DE.dr (yY (DE.dr (dv 0)) (DE.dr zg))) (DE.dr (yY (DE.dr (dv 1)) (DE.dr zg)))) (za (zV (DE.dr (yY (DE.dr (dv 0)) (DE.dr zg))) (DE.dr (yY (DE.dr (dv 1)) (DE.dr zg)))) zk)))))
noncomputable def VA : FS := (yh (xb 2 (zc wJ (zc ixD (vF 0) (cF (.int 1))) (zc ixD (vF 1) (cF (.int 1))))) (yv (tupF (zb (zc yV (zc wJ (zc ixD (vF 0) (cF (.int 0))) (zc ixD (vF 1) (cF (.int 0)))) (vF 2)) (zb (zc yV (zc yV (zc wJ (zc ixD (vF 0) (cF (.int 0))) (zc ixD (vF 1) (cF (.int 1)))) (zc wJ (zc ixD (vF 0) (cF (.int 1))) (zc ixD (vF 1) (cF (.int 0))))) (vF 2)) zu)))))
noncomputable def vz : List D -> Option D := vJ 3 VA
theorem VL : FnScope ["x", "y", "both"] ["x", "y"] (zd jI) := ⟨rfl, rfl, rfl, by decide +kernel, rfl, by decide +kernel, by decide +kernel⟩
theorem Gg (Fn : Fun K "times" "times" jI f fd) (T : Txt K mg)  :
  FnOk P w K mg base CX0 1 f fd ["x", "y"] (spF K 2 vz) :=
 yb (k := 0) (m := 3) (F := VA) rfl rfl Fn VL fun cdv A outer s H E hr => (ze (zZ 2 VL.nd (x4 (DE.dr (yY (DE.dr (dv 0)) (DE.dr zg))) (DE.dr (yY (DE.dr (dv 1)) (DE.dr zg))))) (zi (zw (xq (za (zV (DE.dr (x4 (DE.dr (yY (DE.dr (dv 0)) (DE.dr zg))) (DE.dr (yY (DE.dr (dv 1)) (DE.dr zg))))) (DE.dr (dv 2))) (za (zV (DE.dr (zV (DE.dr (x4 (DE.dr (yY (DE.dr (dv 0)) (DE.dr zg))) (DE.dr (yY (DE.dr (dv 1)) (DE.dr zg))))) (DE.dr (x4 (DE.dr (yY (DE.dr (dv 0)) (DE.dr zg))) (DE.dr (yY (DE.dr (dv 1)) (DE.dr zg))))))) (DE.dr (dv 2))) zk))))))
noncomputable def VB : FS := (yv (tupF (zb (y0 qJ (zc ixD (vF 0) (cF (.int 0)))) (zb (y0 qJ (zc ixD (vF 0) (cF (.int 1)))) zu))))
noncomputable def wQ : List D -> Option D := vJ 1 VB
theorem KR : FnScope ["x"] ["x"] (zd jJ) := ⟨rfl, rfl, rfl, by decide +kernel, rfl, by decide +kernel, by decide +kernel⟩
theorem Gh (Fn : Fun K "minus" "minus" jJ f fd) (T : Txt K mg)  :
  FnOk P w K mg base CX0 1 f fd ["x"] (spF K 1 wQ) :=
 yb (k := 0) (m := 1) (F := VB) rfl rfl Fn KR fun cdv A outer s H E hr => (zi (zw (xq (za (vE (DE.dr (yY (DE.dr (dv 0)) (DE.dr zg)))) (za (vE (DE.dr (yY (DE.dr (dv 0)) (DE.dr zg)))) zk)))))
noncomputable def wN : FS := (yh (ifS (blF (zc gtD (vF 0) (cF (.int 0)))) (yv (cF (.int 1))) nxF) (yh (ifS (blF (zc ltD (vF 0) (cF (.int 0)))) (yv (y0 qJ (cF (.int 1)))) nxF) (yv (cF (.int 0)))))
noncomputable def yq : List D -> Option D := vJ 1 wN
theorem YF : FnScope ["number"] ["number"] (zd xJ) := ⟨rfl, rfl, rfl, by decide +kernel, rfl, by decide +kernel, by decide +kernel⟩
theorem YV (Fn : Fun K "whole_sign" "whole_sign" xJ f fd) (T : Txt K mg)  :
  FnOk P w K mg base CX0 1 f fd ["number"] (spF K 1 yq) :=
 yb (k := 0) (m := 1) (F := wN) rfl rfl Fn YF fun cdv A outer s H E hr => (ze (yT (GR (DE.dr (dv 0)) (DE.dr zg)) (zi (zw zg)) zL) (ze (yT (GP (DE.dr (dv 0)) (DE.dr zg)) (zi (zw (vE (DE.dr zg)))) zL) (zi (zw zg))))
noncomputable def Ut : FS := (yh (xb 1 (zO yq (zb (zc ixD (vF 0) (cF (.int 0))) zu))) (yh (xb 2 (zO yq (zb (zc ixD (vF 0) (cF (.int 1))) zu))) (yh (ifS (blF (zc geD (zc wJ (vF 1) (vF 2)) (cF (.int 0)))) (yv (zO yq (zb (zc yV (vF 1) (vF 2)) zu))) nxF) (yh (xb 3 (zc Ky (zc yV (zc wJ (zc ixD (vF 0) (cF (.int 0))) (zc ixD (vF 0) (cF (.int 0)))) (zc wJ (zc ixD (vF 0) (cF (.int 0))) (zc ixD (vF 0) (cF (.int 1))))) (zc wJ (zc ixD (vF 0) (cF (.int 1))) (zc ixD (vF 0) (cF (.int 1)))))) (yv (zc wJ (vF 1) (zO yq (zb (vF 3) zu))))))))
noncomputable def uw : List D -> Option D := vJ 4 Ut
theorem YG : FnScope ["x", "whole", "golden", "product"] ["x"] (zd Z7) := ⟨rfl, rfl, rfl, by decide +kernel, rfl, by decide +kernel, by decide +kernel⟩
theorem Bx (Fn : Fun K "sign" "sign" Z7 f fd) (T : Txt K mg) (h_whole_sign : HasFn P w K mg base 1 "whole_sign" 1 yq) :
  FnOk P w K mg base CX0 2 f fd ["x"] (spF K 1 uw) :=
 yb (k := 1) (m := 4) (F := Ut) rfl rfl Fn YG fun cdv A outer s H E hr => (ze (zZ 1 YG.nd (zr h_whole_sign (hr.mono (by decide)) rfl (za (yY (DE.dr (dv 0)) (DE.dr zg)) zk) (zo zX))) (ze (zZ 2 YG.nd (zr h_whole_sign (hr.mono (by decide)) rfl (za (yY (DE.dr (dv 0)) (DE.dr zg)) zk) (zo zX))) (ze (yT (Kd (DE.dr (x4 (DE.dr (dv 1)) (DE.dr (dv 2)))) (DE.dr zg)) (zi (zw (zr h_whole_sign (hr.mono (by decide)) rfl (za (zV (DE.dr (dv 1)) (DE.dr (dv 2))) zk) (zo zX)))) zL) (ze (zZ 3 YG.nd (Kh (DE.dr (zV (DE.dr (x4 (DE.dr (yY (DE.dr (dv 0)) (DE.dr zg))) (DE.dr (yY (DE.dr (dv 0)) (DE.dr zg))))) (DE.dr (x4 (DE.dr (yY (DE.dr (dv 0)) (DE.dr zg))) (DE.dr (yY (DE.dr (dv 0)) (DE.dr zg))))))) (DE.dr (x4 (DE.dr (yY (DE.dr (dv 0)) (DE.dr zg))) (DE.dr (yY (DE.dr (dv 0)) (DE.dr zg))))))) (zi (zw (x4 (DE.dr (dv 1)) (DE.dr (zr h_whole_sign (hr.mono (by decide)) rfl (za (dv 3) zk) (zo zX))))))))))
noncomputable def ZM : FS := (yh (xb 3 (zO Hu (zb (vF 1) (zb (vF 2) zu)))) (yh (xb 4 (zO Hv (zb (vF 1) (zb (vF 2) zu)))) (yh (kF (yc (zc ixD (vF 0) (cF (.int 1)))) (ZT 3 (yU (zJ 5) (yU (zJ 6) (yU (zJ 7) Yf)))) (ifS (Vx (blF (zc eqF (vF 5) (vF 3))) (blF (zc eqF (vF 6) (vF 4)))) (yv (vF 7)) nxF)) (yv (cF (.int 2))))))
noncomputable def zC : List D -> Option D := vJ 8 ZM
theorem vc : FnScope ["house", "i", "j", "lesser", "greater", "first", "second", "m"] ["house", "i", "j"] (zd ud) := ⟨rfl, rfl, rfl, by decide +kernel, rfl, by decide +kernel, by decide +kernel⟩
theorem UT (Fn : Fun K "turn_of" "turn_of" ud f fd) (T : Txt K mg)  :
  FnOk P w K mg base CX0 1 f fd ["house", "i", "j"] (spF K 3 zC) :=
 yb (k := 0) (m := 8) (F := ZM) rfl rfl Fn vc fun cdv A outer s H E hr => (ze (zZ 3 vc.nd (wu (ZG rfl) Vm rfl T.min_b (by rfl) (zx (DE.dr (dv 1)) (zx (DE.dr (dv 2)) zU)))) (ze (zZ 4 vc.nd (wu (ZH rfl) Vn rfl T.max_b (by rfl) (zx (DE.dr (dv 1)) (zx (DE.dr (dv 2)) zU)))) (ze (xZ PassesOwn.never rfl (qg (yY (DE.dr (dv 0)) (DE.dr zg))) (ky rfl (yz (zQ 5 vc.nd) (yz (zQ 6 vc.nd) (yz (zQ 7 vc.nd) qh)))) (zi (yT (DW.dt (kv (vD hr (DE.dr (dv 5)) (DE.dr (dv 3))) (jX (vD hr (DE.dr (dv 6)) (DE.dr (dv 4)))))) (zi (zw (dv 7))) zL))) (zi (zw (HF rfl T.NOT_TOLD_c))))))
noncomputable def vI : FS := (yh (ifS (blF (zc eqF (vF 1) (vF 2))) (yv (tupF (zb (cF (.int 2)) (zb (cF (.int 0)) zu)))) nxF) (yh (xb 3 (zO zC (zb (vF 0) (zb (vF 1) (zb (vF 2) zu))))) (yh (ifS (Vx (blF (zc gtD (vF 1) (vF 2))) (blF (zc (inD false) (vF 3) (tupF (zb (cF (.int 4)) (zb (cF (.int 6)) zu)))))) (yv (tupF (zb (y0 qJ (cF (.int 1))) (zb (cF (.int 0)) zu)))) nxF) (yv (zO wQ (zb (y0 (jR [(0, (.tup [(.int 2), (.int 0)])), (2, (.tup [(.int 0), (.int 0)])), (3, (.tup [(.int 1), (.int 0)])), (4, (.tup [(.int 2), (.int 0)])), (5, (.tup [(.int 0), (.int 1)])), (6, (.tup [(.int 3), (.int 0)]))]) (vF 3)) zu))))))
noncomputable def xi : List D -> Option D := vJ 4 vI
theorem QS : FnScope ["house", "i", "j", "turn"] ["house", "i", "j"] (zd Z8) := ⟨rfl, rfl, rfl, by decide +kernel, rfl, by decide +kernel, by decide +kernel⟩
theorem By (Fn : Fun K "pull" "pull" Z8 f fd) (T : Txt K mg) (h_minus : HasFn P w K mg base 1 "minus" 1 wQ) (h_turn_of : HasFn P w K mg base 1 "turn_of" 3 zC) :
  FnOk P w K mg base CX0 2 f fd ["house", "i", "j"] (spF K 3 xi) :=
 yb (k := 1) (m := 4) (F := vI) rfl rfl Fn QS fun cdv A outer s H E hr => (ze (yT (vD hr (DE.dr (dv 1)) (DE.dr (dv 2))) (zi (zw (xq (za zg (za zg zk))))) zL) (ze (zZ 3 QS.nd (zr h_turn_of (hr.mono (by decide)) rfl (za (dv 0) (za (dv 1) (za (dv 2) zk))) (zo (zo (zo zX))))) (ze (yT (DW.dt (kv (GR (DE.dr (dv 1)) (DE.dr (dv 2))) (jX (MB hr (DE.dr (dv 3)) (DE.dr (xq (za zg (za zg zk)))))))) (zi (zw (xq (za (vE (DE.dr zg)) (za zg zk))))) zL) (zi (zw (zr h_minus (hr.mono (by decide)) rfl (za (Ce rfl T.PULLS_BELOW_NOUGHT_c (DE.dr (dv 3))) zk) (zo zX)))))))
noncomputable def Xk : FS := (yv (zO je (zb (yI (qi 1 [1] (YO (zb (zc ixD (vF 0) (cF (.int 0))) zu)) (zJ 0) ttF (ifF (blF (zc eqF (vF 0) (vF 1))) (cF (.tup [(.int 1), (.int 0)])) (cF (.tup [(.int 0), (.int 0)]))))) zu)))
noncomputable def vL : List D -> Option D := vJ 2 Xk
theorem QR : FnScope ["house", "i"] ["house", "i"] (zd qw) := ⟨rfl, rfl, rfl, by decide +kernel, rfl, by decide +kernel, by decide +kernel⟩
theorem Jp (Fn : Fun K "simple" "simple" qw f fd) (T : Txt K mg)  :
  FnOk P w K mg base CX0 1 f fd ["house", "i"] (spF K 2 vL) :=
 yb (k := 0) (m := 2) (F := Xk) rfl rfl Fn QR fun cdv A outer s H E hr => (zi (zw (xD x5 qe rfl T.tuple_b (by rfl) (zx (DE.dr (DN.de (qW (own := ["j"]) (frees := ["i"]) (caps := [1]) rfl (.of (by kernel_rfl)) rfl wO (xk rfl T.range_b (zx (DE.dr (yY (DE.dr (dv 0)) (DE.dr zg))) zU)) (fun cl C s H fp => ⟨(zQ 0 (show List.Nodup (["j", "i"] : List Str) from by decide +kernel)), qO, (Vs (vD hr (DE.dr (dv 0)) (DE.dr (dv 1))) (Kj rfl T.ONE_c) (Kj rfl T.NOUGHT_c))⟩)))) zU))))
noncomputable def j7 : FS := (yh (xb 3 (cF (.tup [(.int 0), (.int 0)]))) (yh (kF (qd (vF 2)) (ZT 2 (yU (zJ 4) (yU (zJ 5) Yf))) (xb 3 (zO uQ (zb (vF 3) (zb (zO vz (zb (zO xi (zb (vF 0) (zb (vF 1) (zb (vF 4) zu)))) (zb (vF 5) zu))) zu))))) (yv (zc yV (zc yV (ym (vF 2) noP (exP (vF 1))) (tupF (zb (zO uQ (zb (zc ixD (vF 2) (vF 1)) (zb (zO wQ (zb (vF 3) zu)) zu))) zu))) (ym (vF 2) (exP (zc yV (vF 1) (cF (.int 1)))) noP)))))
noncomputable def wj : List D -> Option D := vJ 6 j7
theorem vv : FnScope ["house", "i", "row", "less", "j", "number"] ["house", "i", "row"] (zd ve) := ⟨rfl, rfl, rfl, by decide +kernel, rfl, by decide +kernel, by decide +kernel⟩
theorem W4 (Fn : Fun K "mirrored" "mirrored" ve f fd) (T : Txt K mg) (h_minus : HasFn P w K mg base 1 "minus" 1 wQ) (h_plus : HasFn P w K mg base 1 "plus" 2 uQ) (h_pull : HasFn P w K mg base 2 "pull" 3 xi) (h_times : HasFn P w K mg base 1 "times" 2 vz) :
  FnOk P w K mg base CX0 3 f fd ["house", "i", "row"] (spF K 3 wj) :=
 yb (k := 2) (m := 6) (F := j7) rfl rfl Fn vv fun cdv A outer s H E hr => (ze (zZ 3 vv.nd (Kj rfl T.NOUGHT_c)) (ze (xZ PassesOwn.never rfl (ZD rfl T.enumerate_b (dv 2)) (ky rfl (yz (zQ 4 vv.nd) (yz (zQ 5 vv.nd) qh))) (zi (zZ 3 vv.nd (zr h_plus (hr.mono (by decide)) rfl (za (dv 3) (za (zr h_times (hr.mono (by decide)) rfl (za (zr h_pull (hr.mono (by decide)) rfl (za (dv 0) (za (dv 1) (za (dv 4) zk))) (zo (zo (zo zX)))) (za (dv 5) zk)) (zo (zo zX))) zk)) (zo (zo zX)))))) (zi (zw (zV (DE.dr (zV (DE.dr (yN (DE.dr (dv 2)) uU (wM (DE.dr (dv 1))))) (DE.dr (xq (za (zr h_plus (hr.mono (by decide)) rfl (za (yY (DE.dr (dv 2)) (DE.dr (dv 1))) (za (zr h_minus (hr.mono (by decide)) rfl (za (dv 3) zk) (zo zX)) zk)) (zo (zo zX))) zk))))) (DE.dr (yN (DE.dr (dv 2)) (wM (DE.dr (zV (DE.dr (dv 1)) (DE.dr zg)))) uU)))))))
noncomputable def Cs : FS := (yh (kF (JS (vF 1)) (zJ 3) (xb 2 (zO wj (zb (vF 0) (zb (vF 3) (zb (vF 2) zu)))))) (yv (vF 2)))
noncomputable def X8 : List D -> Option D := vJ 4 Cs
theorem QT : FnScope ["house", "word", "row", "mirror"] ["house", "word", "row"] (zd UL) := ⟨rfl, rfl, rfl, by decide +kernel, rfl, by decide +kernel, by decide +kernel⟩
theorem Ds (Fn : Fun K "led" "led" UL f fd) (T : Txt K mg) (h_mirrored : HasFn P w K mg base 3 "mirrored" 3 wj) :
  FnOk P w K mg base CX0 4 f fd ["house", "word", "row"] (spF K 3 X8) :=
 yb (k := 3) (m := 4) (F := Cs) rfl rfl Fn QT fun cdv A outer s H E hr => (ze (xZ PassesOwn.never rfl (D9 rfl T.reversed_b (dv 1)) (zQ 3 QT.nd) (zi (zZ 2 QT.nd (zr h_mirrored (hr.mono (by decide)) rfl (za (dv 0) (za (dv 3) (za (dv 2) zk))) (zo (zo (zo zX))))))) (zi (zw (dv 2))))
noncomputable def Xn : FS := (yv (yI (qi 1 [0, 1] (YO (zb (zc ixD (vF 0) (cF (.int 0))) zu)) (zJ 0) ttF (zO X8 (zb (vF 1) (zb (vF 2) (zb (zO vL (zb (vF 1) (zb (vF 0) zu))) zu)))))))
noncomputable def vO : List D -> Option D := vJ 2 Xn
theorem QV : FnScope ["house", "word"] ["house", "word"] (zd qB) := ⟨rfl, rfl, rfl, by decide +kernel, rfl, by decide +kernel, by decide +kernel⟩
theorem Ju (Fn : Fun K "images" "images" qB f fd) (T : Txt K mg) (h_led : HasFn P w K mg base 4 "led" 3 X8) (h_simple : HasFn P w K mg base 1 "simple" 2 vL) :
  FnOk P w K mg base CX0 5 f fd ["house", "word"] (spF K 2 vO) :=
 yb (k := 4) (m := 2) (F := Xn) rfl rfl Fn QV fun cdv A outer s H E hr => (zi (zw (DN.de (qW (own := ["i"]) (frees := ["house", "word"]) (caps := [0, 1]) rfl (.of (by kernel_rfl)) rfl wO (xk rfl T.range_b (zx (DE.dr (yY (DE.dr (dv 0)) (DE.dr zg))) zU)) (fun cl C s H fp => ⟨(zQ 0 (show List.Nodup (["i", "house", "word"] : List Str) from by decide +kernel)), qO, (zr h_led (hr.mono (by decide)) rfl (za (dv 1) (za (dv 2) (za (zr h_simple (hr.mono (by decide)) rfl (za (dv 1) (za (dv 0) zk)) (zo (zo zX))) zk))) (zo (zo (zo zX))))⟩)))))
noncomputable def ZN : FS := (yv (zO je (zb (yI (qi 2 [1] (Ub (vF 0) (vF 2)) (ZT 2 (yU (zJ 0) (yU (zJ 1) Yf))) ttF (zO uQ (zb (vF 0) (zb (zO wQ (zb (zO vz (zb (vF 2) (zb (vF 1) zu))) zu)) zu))))) zu)))
noncomputable def wL : List D -> Option D := vJ 3 ZN
theorem UH : FnScope ["row", "factor", "other"] ["row", "factor", "other"] (zd uf) := ⟨rfl, rfl, rfl, by decide +kernel, rfl, by decide +kernel, by decide +kernel⟩
theorem UU (Fn : Fun K "less_by" "less_by" uf f fd) (T : Txt K mg) (h_minus : HasFn P w K mg base 1 "minus" 1 wQ) (h_plus : HasFn P w K mg base 1 "plus" 2 uQ) (h_times : HasFn P w K mg base 1 "times" 2 vz) :
  FnOk P w K mg base CX0 2 f fd ["row", "factor", "other"] (spF K 3 wL) :=
 yb (k := 1) (m := 3) (F := ZN) rfl rfl Fn UH fun cdv A outer s H E hr => (zi (zw (xD x5 qe rfl T.tuple_b (by rfl) (zx (DE.dr (DN.de (qW (own := ["x", "y"]) (frees := ["factor"]) (caps := [1]) rfl (.of (by kernel_rfl)) rfl (Hx (kL wO (kL wO JQ))) (D8 rfl T.zip_b (dv 0) (dv 2)) (fun cl C s H fp => ⟨(ky rfl (yz (zQ 0 (show List.Nodup (["x", "y", "factor"] : List Str) from by decide +kernel)) (yz (zQ 1 (show List.Nodup (["x", "y", "factor"] : List Str) from by decide +kernel)) qh))), qO, (zr h_plus (hr.mono (by decide)) rfl (za (dv 0) (za (zr h_minus (hr.mono (by decide)) rfl (za (zr h_times (hr.mono (by decide)) rfl (za (dv 2) (za (dv 1) zk)) (zo (zo zX))) zk) (zo zX)) zk)) (zo (zo zX)))⟩)))) zU))))
noncomputable def xt : FS := (yv (yI (qi 2 [0, 2, 1] (qd (vF 1)) (ZT 2 (yU (zJ 0) (yU (zJ 1) Yf))) ttF (zO wL (zb (vF 1) (zb (zO xi (zb (vF 2) (zb (vF 3) (zb (vF 0) zu)))) (zb (zc ixD (vF 4) (vF 3)) zu)))))))
noncomputable def zH : List D -> Option D := vJ 3 xt
theorem uX : FnScope ["house", "rows", "i"] ["house", "rows", "i"] (zd yi) := ⟨rfl, rfl, rfl, by decide +kernel, rfl, by decide +kernel, by decide +kernel⟩
theorem u4 (Fn : Fun K "images_with_behind" "images_with_behind" yi f fd) (T : Txt K mg) (h_less_by : HasFn P w K mg base 2 "less_by" 3 wL) (h_pull : HasFn P w K mg base 2 "pull" 3 xi) :
  FnOk P w K mg base CX0 3 f fd ["house", "rows", "i"] (spF K 3 zH) :=
 yb (k := 2) (m := 3) (F := xt) rfl rfl Fn uX fun cdv A outer s H E hr => (zi (zw (DN.de (qW (own := ["j", "row"]) (frees := ["house", "i", "rows"]) (caps := [0, 2, 1]) rfl (.of (by kernel_rfl)) rfl (Hx (kL wO (kL wO JQ))) (ZD rfl T.enumerate_b (dv 1)) (fun cl C s H fp => ⟨(ky rfl (yz (zQ 0 (show List.Nodup (["j", "row", "house", "i", "rows"] : List Str) from by decide +kernel)) (yz (zQ 1 (show List.Nodup (["j", "row", "house", "i", "rows"] : List Str) from by decide +kernel)) qh))), qO, (zr h_less_by (hr.mono (by decide)) rfl (za (dv 1) (za (zr h_pull (hr.mono (by decide)) rfl (za (dv 2) (za (dv 3) (za (dv 0) zk))) (zo (zo (zo zX)))) (za (yY (DE.dr (dv 4)) (DE.dr (dv 3))) zk))) (zo (zo (zo zX))))⟩)))))
noncomputable def kd : FS := (yh (xb 1 (yI (qi 1 [] (yc (vF 0)) (zJ 0) ttF (zO uw (zb (vF 0) zu))))) (yv (HH (zc (inD false) (cF (.int 1)) (vF 1)) (zc (inD true) (y0 qJ (cF (.int 1))) (vF 1)))))
noncomputable def wt : List D -> Option D := vJ 2 kd
theorem Zf : FnScope ["row", "signs"] ["row"] (zd vn) := ⟨rfl, rfl, rfl, by decide +kernel, rfl, by decide +kernel, by decide +kernel⟩
theorem Va (Fn : Fun K "is_above" "is_above" vn f fd) (T : Txt K mg) (h_sign : HasFn P w K mg base 2 "sign" 1 uw) :
  FnOk P w K mg base CX0 3 f fd ["row"] (spF K 1 wt) :=
 yb (k := 2) (m := 2) (F := kd) rfl rfl Fn Zf fun cdv A outer s H E hr => (ze (jY 1 Zf.nd (own := ["x"]) (frees := []) (caps := []) rfl (.of (by kernel_rfl)) rfl wO (qg (dv 0)) (fun cl C s H fp => ⟨(zQ 0 (show List.Nodup (["x"] : List Str) from by decide +kernel)), qO, (zr h_sign (hr.mono (by decide)) rfl (za (dv 0) zk) (zo zX))⟩)) (zi (zw (Qh (ME hr (DE.dr zg) (DE.dr (dv 1))) (Ki (Vr hr (DE.dr (vE (DE.dr zg))) (DE.dr (dv 1))))))))
noncomputable def kc : FS := (yh (xb 1 (yI (qi 1 [] (yc (vF 0)) (zJ 0) ttF (zO uw (zb (vF 0) zu))))) (yv (HH (zc (inD false) (y0 qJ (cF (.int 1))) (vF 1)) (zc (inD true) (cF (.int 1)) (vF 1)))))
noncomputable def wq : List D -> Option D := vJ 2 kc
theorem Ze : FnScope ["row", "signs"] ["row"] (zd vk) := ⟨rfl, rfl, rfl, by decide +kernel, rfl, by decide +kernel, by decide +kernel⟩
theorem W9 (Fn : Fun K "is_below" "is_below" vk f fd) (T : Txt K mg) (h_sign : HasFn P w K mg base 2 "sign" 1 uw) :
  FnOk P w K mg base CX0 3 f fd ["row"] (spF K 1 wq) :=
 yb (k := 2) (m := 2) (F := kc) rfl rfl Fn Ze fun cdv A outer s H E hr => (ze (jY 1 Ze.nd (own := ["x"]) (frees := []) (caps := []) rfl (.of (by kernel_rfl)) rfl wO (qg (dv 0)) (fun cl C s H fp => ⟨(zQ 0 (show List.Nodup (["x"] : List Str) from by decide +kernel)), qO, (zr h_sign (hr.mono (by decide)) rfl (za (dv 0) zk) (zo zX))⟩)) (zi (zw (Qh (ME hr (DE.dr (vE (DE.dr zg))) (DE.dr (dv 1))) (Ki (Vr hr (DE.dr zg) (DE.dr (dv 1))))))))
noncomputable def wU : FS := (yh (Cz 2 (Yi zu)) (yh (xb 3 (zO vO (zb (vF 0) (zb (tupF zu) zu)))) (yh (kF (yc (vF 1)) (zJ 4) (yh (qp 2 (zO wt (zb (zc ixD (vF 3) (vF 4)) zu))) (xb 3 (zO zH (zb (vF 0) (zb (vF 3) (zb (vF 4) zu))))))) (DV 2 (yv (vF 2))))))
noncomputable def yQ : List D -> Option D := vJ 5 wU
theorem yX : FnScope ["house", "word", "told", "rows", "mirror"] ["house", "word"] (zd yP) := ⟨rfl, rfl, rfl, by decide +kernel, rfl, by decide +kernel, by decide +kernel⟩
theorem jO (Fn : Fun K "which_lengthen" "which_lengthen" yP f fd) (T : Txt K mg) (h_images : HasFn P w K mg base 5 "images" 2 vO) (h_images_with_behind : HasFn P w K mg base 3 "images_with_behind" 3 zH) (h_is_above : HasFn P w K mg base 3 "is_above" 1 wt) :
  FnOk P w K mg base CX0 6 f fd ["house", "word"] (spF K 2 yQ) :=
 yb (k := 5) (m := 5) (F := wU) rfl rfl Fn yX fun cdv A outer s H E hr => (ze (Y8 2 yX.nd (uS zk)) (ze (zZ 3 yX.nd (zr h_images (hr.mono (by decide)) rfl (za (dv 0) (za (xq zk) zk)) (zo (zo zX)))) (ze (xZ PassesOwn.never rfl (qg (dv 1)) (zQ 4 yX.nd) (ze (ZC 2 (zr h_is_above (hr.mono (by decide)) rfl (za (yY (DE.dr (dv 3)) (DE.dr (dv 4))) zk) (zo zX))) (zi (zZ 3 yX.nd (zr h_images_with_behind (hr.mono (by decide)) rfl (za (dv 0) (za (dv 3) (za (dv 4) zk))) (zo (zo (zo zX)))))))) (Ke 2 (zi (zw (dv 2)))))))
noncomputable def kb : FS := (yv (zO FC (zb (zO yQ (zb (vF 0) (zb (vF 1) zu))) zu)))
noncomputable def yf : List D -> Option D := vJ 2 kb
theorem WU : FnScope ["house", "word"] ["house", "word"] (zd vj) := ⟨rfl, rfl, rfl, by decide +kernel, rfl, by decide +kernel, by decide +kernel⟩
theorem W8 (Fn : Fun K "is_short" "is_short" vj f fd) (T : Txt K mg) (h_which_lengthen : HasFn P w K mg base 6 "which_lengthen" 2 yQ) :
  FnOk P w K mg base CX0 7 f fd ["house", "word"] (spF K 2 yf) :=
 yb (k := 6) (m := 2) (F := kb) rfl rfl Fn WU fun cdv A outer s H E hr => (zi (zw (wu (G4 rfl) BY rfl T.all_b (by rfl) (zx (DE.dr (zr h_which_lengthen (hr.mono (by decide)) rfl (za (dv 0) (za (dv 1) zk)) (zo (zo zX)))) zU))))
noncomputable def uM : FS := (yh (kF (qd (vF 0)) (ZT 2 (yU (zJ 1) (yU (zJ 2) Yf))) (ifS (blF (zO wq (zb (vF 2) zu))) (yv (vF 1)) nxF)) (yv (cF .non)))
noncomputable def yR : List D -> Option D := vJ 3 uM
theorem vT : FnScope ["rows", "mirror", "row"] ["rows"] (zd xn) := ⟨rfl, rfl, rfl, by decide +kernel, rfl, by decide +kernel, by decide +kernel⟩
theorem ZV (Fn : Fun K "first_below" "first_below" xn f fd) (T : Txt K mg) (h_is_below : HasFn P w K mg base 3 "is_below" 1 wq) :
  FnOk P w K mg base CX0 4 f fd ["rows"] (spF K 1 yR) :=
 yb (k := 3) (m := 3) (F := uM) rfl rfl Fn vT fun cdv A outer s H E hr => (ze (xZ PassesOwn.never rfl (ZD rfl T.enumerate_b (dv 0)) (ky rfl (yz (zQ 1 vT.nd) (yz (zQ 2 vT.nd) qh))) (zi (yT (jv (DE.dr (zr h_is_below (hr.mono (by decide)) rfl (za (dv 2) zk) (zo zX)))) (zi (zw (dv 1))) zL))) (zi (zw ux)))
noncomputable def VC : FS := (yh (Cz 2 (Yi zu)) (yh (xb 3 (zO vO (zb (vF 0) (zb (Ft (vF 1)) zu)))) (yh (xb 4 (zO yR (zb (vF 3) zu))) (yh (jc (blF (zc (isD true) (vF 4) (cF .non))) (yh (qp 2 (vF 4)) (yh (xb 3 (zO zH (zb (vF 0) (zb (vF 3) (zb (vF 4) zu))))) (xb 4 (zO yR (zb (vF 3) zu))))) 100000) (yv (zO je (zb (vR 2) zu)))))))
noncomputable def vX : List D -> Option D := vJ 5 VC
theorem qs : FnScope ["house", "word", "signs", "rows", "mirror"] ["house", "word"] (zd jK) := ⟨rfl, rfl, rfl, by decide +kernel, rfl, by decide +kernel, by decide +kernel⟩
theorem Gi (Fn : Fun K "least" "least" jK f fd) (T : Txt K mg) (h_first_below : HasFn P w K mg base 4 "first_below" 1 yR) (h_images : HasFn P w K mg base 5 "images" 2 vO) (h_images_with_behind : HasFn P w K mg base 3 "images_with_behind" 3 zH) :
  FnOk P w K mg base CX0 6 f fd ["house", "word"] (spF K 2 vX) :=
 yb (k := 5) (m := 5) (F := VC) rfl rfl Fn qs fun cdv A outer s H E hr => (ze (Y8 2 qs.nd (uS zk)) (ze (zZ 3 qs.nd (zr h_images (hr.mono (by decide)) rfl (za (dv 0) (za (GV rfl rfl T.tuple_b rfl T.reversed_b (dv 1)) zk)) (zo (zo zX)))) (ze (zZ 4 qs.nd (zr h_first_below (hr.mono (by decide)) rfl (za (dv 3) zk) (zo zX))) (ze (GT 100000 PassesOwn.never (GQ (DE.dr (dv 4)) (DE.dr ux)) (ze (ZC 2 (dv 4)) (ze (zZ 3 qs.nd (zr h_images_with_behind (hr.mono (by decide)) rfl (za (dv 0) (za (dv 3) (za (dv 4) zk))) (zo (zo (zo zX))))) (zi (zZ 4 qs.nd (zr h_first_below (hr.mono (by decide)) rfl (za (dv 3) zk) (zo zX))))))) (zi (zw (xD x5 qe rfl T.tuple_b (by rfl) (zx (dvr 2) zU))))))))
noncomputable def ZS : FS := (yv (zO je (zb (yI (qi 1 [0, 1] (YO (zb (vF 2) zu)) (zJ 0) ttF (ifF (blF (zc eqF (zc qQ (vF 0) (cF (.int 2))) (cF (.int 0)))) (vF 1) (vF 2)))) zu)))
noncomputable def zF : List D -> Option D := vJ 3 ZS
theorem UK : FnScope ["i", "j", "signs"] ["i", "j", "signs"] (zd um) := ⟨rfl, rfl, rfl, by decide +kernel, rfl, by decide +kernel, by decide +kernel⟩
theorem U0 (Fn : Fun K "in_turn" "in_turn" um f fd) (T : Txt K mg)  :
  FnOk P w K mg base CX0 1 f fd ["i", "j", "signs"] (spF K 3 zF) :=
 yb (k := 0) (m := 3) (F := ZS) rfl rfl Fn UK fun cdv A outer s H E hr => (zi (zw (xD x5 qe rfl T.tuple_b (by rfl) (zx (DE.dr (DN.de (qW (own := ["place"]) (frees := ["i", "j"]) (caps := [0, 1]) rfl (.of (by kernel_rfl)) rfl wO (xk rfl T.range_b (zx (DE.dr (dv 2)) zU)) (fun cl C s H fp => ⟨(zQ 0 (show List.Nodup (["place", "i", "j"] : List Str) from by decide +kernel)), qO, (Vs (vD hr (DE.dr (uy (DE.dr (dv 0)) (DE.dr zg))) (DE.dr zg)) (dv 1) (dv 2))⟩)))) zU))))
noncomputable def xT : FS := (yh (ifS (WE (blF (ql leD ltD (cF (.int 0)) (vF 1) (zc Ky (zO WG (zb (vF 0) zu)) (cF (.int 1)))))) (yv (cF .non)) nxF) (yh (ifS (blF (zc neF (zc ixD (vF 0) (vF 1)) (zc ixD (vF 0) (zc yV (vF 1) (cF (.int 1)))))) (yv (cF .non)) nxF) (yv (zc yV (ym (vF 0) noP (exP (vF 1))) (ym (vF 0) (exP (zc yV (vF 1) (cF (.int 2)))) noP)))))
noncomputable def yS : List D -> Option D := vJ 2 xT
theorem YI : FnScope ["word", "place"] ["word", "place"] (zd xP) := ⟨rfl, rfl, rfl, by decide +kernel, rfl, by decide +kernel, by decide +kernel⟩
theorem YZ (Fn : Fun K "after_drop" "after_drop" xP f fd) (T : Txt K mg)  :
  FnOk P w K mg base CX0 1 f fd ["word", "place"] (spF K 2 yS) :=
 yb (k := 0) (m := 2) (F := xT) rfl rfl Fn YI fun cdv A outer s H E hr => (ze (yT (qN (kO UR UQ Ye Yd (DE.dr zg) (DE.dr (dv 1)) (DE.dr (Kh (DE.dr (wu vG jW rfl T.len_b (by rfl) (zx (DE.dr (dv 0)) zU))) (DE.dr zg))))) (zi (zw ux)) zL) (ze (yT (Wh hr (DE.dr (yY (DE.dr (dv 0)) (DE.dr (dv 1)))) (DE.dr (yY (DE.dr (dv 0)) (DE.dr (zV (DE.dr (dv 1)) (DE.dr zg)))))) (zi (zw ux)) zL) (zi (zw (zV (DE.dr (yN (DE.dr (dv 0)) uU (wM (DE.dr (dv 1))))) (DE.dr (yN (DE.dr (dv 0)) (wM (DE.dr (zV (DE.dr (dv 1)) (DE.dr zg)))) uU)))))))
noncomputable def uL : FS := (yv (ql leD ltD (cF (.int 0)) (vF 1) (zc ixD (vF 0) (cF (.int 0)))))
noncomputable def xj : List D -> Option D := vJ 2 uL
theorem XB : FnScope ["house", "i"] ["house", "i"] (zd wc) := ⟨rfl, rfl, rfl, by decide +kernel, rfl, by decide +kernel, by decide +kernel⟩
theorem XT (Fn : Fun K "is_mirror" "is_mirror" wc f fd) (T : Txt K mg)  :
  FnOk P w K mg base CX0 1 f fd ["house", "i"] (spF K 2 xj) :=
 yb (k := 0) (m := 2) (F := uL) rfl rfl Fn XB fun cdv A outer s H E hr => (zi (zw (Cg UR UQ Ye Yd (DE.dr zg) (DE.dr (dv 1)) (DE.dr (yY (DE.dr (dv 0)) (DE.dr zg))))))
noncomputable def yA : FS := (yh (ifS (WE (blF (ql leD ltD (cF (.int 0)) (vF 2) (zO WG (zb (vF 1) zu))))) (yv (cF .non)) nxF) (yh (ifS (orT (WE (blF (zO xj (zb (vF 0) (zb (vF 3) zu))))) (orT (WE (blF (zO xj (zb (vF 0) (zb (vF 4) zu))))) (blF (zc eqF (vF 3) (vF 4))))) (yv (cF .non)) nxF) (yh (xb 5 (zO zC (zb (vF 0) (zb (vF 3) (zb (vF 4) zu))))) (yh (xb 6 (zc yV (vF 2) (vF 5))) (yh (ifS (orT (blF (zc eqF (vF 5) (cF (.int 0)))) (blF (zc neF (ym (vF 1) (exP (vF 2)) (exP (vF 6))) (zO zF (zb (vF 3) (zb (vF 4) (zb (vF 5) zu))))))) (yv (cF .non)) nxF) (yv (zc yV (zc yV (ym (vF 1) noP (exP (vF 2))) (zO zF (zb (vF 4) (zb (vF 3) (zb (vF 5) zu))))) (ym (vF 1) (exP (vF 6)) noP))))))))
noncomputable def yg : List D -> Option D := vJ 7 yA
theorem uD : FnScope ["house", "word", "place", "i", "j", "turn", "end"] ["house", "word", "place", "i", "j"] (zd xN) := ⟨rfl, rfl, rfl, by decide +kernel, rfl, by decide +kernel, by decide +kernel⟩
theorem YX (Fn : Fun K "after_turn" "after_turn" xN f fd) (T : Txt K mg) (h_in_turn : HasFn P w K mg base 1 "in_turn" 3 zF) (h_is_mirror : HasFn P w K mg base 1 "is_mirror" 2 xj) (h_turn_of : HasFn P w K mg base 1 "turn_of" 3 zC) :
  FnOk P w K mg base CX0 2 f fd ["house", "word", "place", "i", "j"] (spF K 5 yg) :=
 yb (k := 1) (m := 7) (F := yA) rfl rfl Fn uD fun cdv A outer s H E hr => (ze (yT (qN (kO UR UQ Ye Yd (DE.dr zg) (DE.dr (dv 2)) (DE.dr (wu vG jW rfl T.len_b (by rfl) (zx (DE.dr (dv 1)) zU))))) (zi (zw ux)) zL) (ze (yT (DW.dt (ZY (qN (jv (DE.dr (zr h_is_mirror (hr.mono (by decide)) rfl (za (dv 0) (za (dv 3) zk)) (zo (zo zX)))))) (ZY (qN (jv (DE.dr (zr h_is_mirror (hr.mono (by decide)) rfl (za (dv 0) (za (dv 4) zk)) (zo (zo zX)))))) (Yn (vD hr (DE.dr (dv 3)) (DE.dr (dv 4))))))) (zi (zw ux)) zL) (ze (zZ 5 uD.nd (zr h_turn_of (hr.mono (by decide)) rfl (za (dv 0) (za (dv 3) (za (dv 4) zk))) (zo (zo (zo zX))))) (ze (zZ 6 uD.nd (zV (DE.dr (dv 2)) (DE.dr (dv 5)))) (ze (yT (DW.dt (ZY (vD hr (DE.dr (dv 5)) (DE.dr (HF rfl T.NEVER_c))) (Yn (Wh hr (DE.dr (yN (DE.dr (dv 1)) (wM (DE.dr (dv 2))) (wM (DE.dr (dv 6))))) (DE.dr (zr h_in_turn (hr.mono (by decide)) rfl (za (dv 3) (za (dv 4) (za (dv 5) zk))) (zo (zo (zo zX))))))))) (zi (zw ux)) zL) (zi (zw (zV (DE.dr (zV (DE.dr (yN (DE.dr (dv 1)) uU (wM (DE.dr (dv 2))))) (DE.dr (zr h_in_turn (hr.mono (by decide)) rfl (za (dv 4) (za (dv 3) (za (dv 5) zk))) (zo (zo (zo zX))))))) (DE.dr (yN (DE.dr (dv 1)) (wM (DE.dr (dv 6))) uU))))))))))
noncomputable def vS : FS := (yh (ifS (blF (zc eqF (zc ixD (vF 2) (cF (.int 0))) (cF (.str "drop")))) (yv (zO yS (zb (vF 1) (zb (zc ixD (vF 2) (cF (.int 1))) zu)))) nxF) (yv (zO yg (zb (vF 0) (zb (vF 1) (zb (zc ixD (vF 2) (cF (.int 1))) (zb (zc ixD (vF 2) (cF (.int 2))) (zb (zc ixD (vF 2) (cF (.int 3))) zu))))))))
noncomputable def zl : List D -> Option D := vJ 3 vS
theorem YH : FnScope ["house", "word", "move"] ["house", "word", "move"] (zd xO) := ⟨rfl, rfl, rfl, by decide +kernel, rfl, by decide +kernel, by decide +kernel⟩
theorem YY (Fn : Fun K "after_move" "after_move" xO f fd) (T : Txt K mg) (h_after_drop : HasFn P w K mg base 1 "after_drop" 2 yS) (h_after_turn : HasFn P w K mg base 2 "after_turn" 5 yg) :
  FnOk P w K mg base CX0 3 f fd ["house", "word", "move"] (spF K 3 zl) :=
 yb (k := 2) (m := 3) (F := vS) rfl rfl Fn YH fun cdv A outer s H E hr => (ze (yT (vD hr (DE.dr (yY (DE.dr (dv 2)) (DE.dr zg))) (DE.dr (Kk rfl T.DROP_c))) (zi (zw (zr h_after_drop (hr.mono (by decide)) rfl (za (dv 1) (za (yY (DE.dr (dv 2)) (DE.dr zg)) zk)) (zo (zo zX))))) zL) (zi (zw (zr h_after_turn (hr.mono (by decide)) rfl (za (dv 0) (za (dv 1) (za (yY (DE.dr (dv 2)) (DE.dr zg)) (za (yY (DE.dr (dv 2)) (DE.dr zg)) (za (yY (DE.dr (dv 2)) (DE.dr zg)) zk))))) (zo (zo (zo (zo (zo zX)))))))))
noncomputable def Xj : FS := (yh (kF (yc (vF 2)) (zJ 3) (yh (xb 1 (zO zl (zb (vF 0) (zb (vF 1) (zb (vF 3) zu))))) (ifS (blF (zc (isD false) (vF 1) (cF .non))) (yv (cF .non)) nxF))) (yv (vF 1)))
noncomputable def uG : List D -> Option D := vJ 4 Xj
theorem Zc : FnScope ["house", "word", "paper", "move"] ["house", "word", "paper"] (zd qv) := ⟨rfl, rfl, rfl, by decide +kernel, rfl, by decide +kernel, by decide +kernel⟩
theorem Jo (Fn : Fun K "walked" "walked" qv f fd) (T : Txt K mg) (h_after_move : HasFn P w K mg base 3 "after_move" 3 zl) :
  FnOk P w K mg base CX0 4 f fd ["house", "word", "paper"] (spF K 3 uG) :=
 yb (k := 3) (m := 4) (F := Xj) rfl rfl Fn Zc fun cdv A outer s H E hr => (ze (xZ PassesOwn.never rfl (qg (dv 2)) (zQ 3 Zc.nd) (ze (zZ 1 Zc.nd (zr h_after_move (hr.mono (by decide)) rfl (za (dv 0) (za (dv 1) (za (dv 3) zk))) (zo (zo (zo zX))))) (zi (yT (Ca (DE.dr (dv 1)) (DE.dr ux)) (zi (zw ux)) zL)))) (zi (zw (dv 1))))
abbrev sWI : Stmt := Y6 (top 38) 0
abbrev sWD : Stmt := Y6 (top 38) 1
abbrev sWB : Stmt := Y6 (top 38) 2
abbrev sWS : Stmt := Y6 (top 38) 3
def Fo (K : W.Frag) (mg : Str -> Option Value) : Prop := ∃ (C fI fD fB fS : Addr) (dI dD dB dS : FuncData), Cls K C /\ xA K C "house" /\ xA K C "word" /\ xA K C "moves" /\ mg "Walk" = some (.ref C) ∧
 Fun K "__init__" "Walk.__init__" sWI fI dI /\ Fun K "do" "Walk.do" sWD fD dD /\ Fun K "bring" "Walk.bring" sWB fB dB /\ Fun K "shorten" "Walk.shorten" sWS fS dS ∧
 uO K dI ["self", "house", "word"] [] /\ uO K dD ["self", "move"] [] /\ uO K dB ["self", "place", "mirror"] [] /\ uO K dS ["self"] [] /\ Mk K C fI /\ Meth K C "do" fD /\ Meth K C "bring" fB /\ Meth K C "shorten" fS
def MM (C : Addr) : Sp := fun vs H Q _ => ∃ (p dx : Addr) (vh vw : V), vs = [.ref p, vh, vw] /\ H p = some (.ins C dx []) /\ ∀ (l : Addr) (H' : Hp), H l = none -> H' p = some (.ins C dx (Wc vh vw l)) -> H' l = some (.lst []) -> (∀ b o, H b = some o -> b ≠ p -> H' b = some o) -> Q .non H'
def Fs (K : W.Frag) (C : Addr) : Sp := fun vs H Q _ => ∃ (p dx l : Addr) (Hf : Hp) (hd wd md : D) (ms : List D) (vm : V) (ws' : WS), vs = [.ref p, vm] /\ WAt K C p dx l H Hf hd wd ms /\ Has K Hf md vm /\ doD zl hd (wd, ms) md = some ws' ∧
 ∀ H' Hf', Chg p l H Hf H' Hf' -> WAt K C p dx l H' Hf' hd ws'.1 ws'.2 -> Q .non H'
def FY (K : W.Frag) (C : Addr) (n : Nat) : Sp := fun vs H Q _ => ∃ (p dx l : Addr) (Hf : Hp) (hd wd pd md : D) (ms : List D) (vp vm : V) (ws' : WS), vs = [.ref p, vp, vm] /\ WAt K C p dx l H Hf hd wd ms /\ Has K Hf pd vp /\ Has K Hf md vm /\ wY zl zC zF hd n (wd, ms) pd md = some ws' ∧
 ∀ H' Hf', Chg p l H Hf H' Hf' -> WAt K C p dx l H' Hf' hd ws'.1 ws'.2 -> Q .non H'
def ML (K : W.Frag) (C : Addr) (n : Nat) : Sp := fun vs H Q _ => ∃ (p dx l : Addr) (Hf : Hp) (hd wd : D) (ms : List D) (ws' : WS), vs = [.ref p] /\ WAt K C p dx l H Hf hd wd ms /\ Zb zl zC zF yf hd n (wd, ms) = some ws' ∧
 ∀ H' Hf', Chg p l H Hf H' Hf' -> WAt K C p dx l H' Hf' hd ws'.1 ws'.2 -> Q .non H'
theorem Nn : FnScope ["self", "house", "word"] ["self", "house", "word"] (zd sWI) := ⟨rfl, rfl, rfl, by decide +kernel, rfl, by decide +kernel, by decide +kernel⟩
theorem Mn {P : Program} {w : World} {K : W.Frag} {mg : Str -> Option Value} {base : Heap} {f C : Addr} {fd : FuncData} (F : Fun K "__init__" "Walk.__init__" sWI f fd) (cl : Cls K C) (nH : xA K C "house") (nW : xA K C "word") (nM : xA K C "moves") :
  FnOk P w K mg base CX0 1 f fd ["self", "house", "word"] (MM C) := by
 refine F.ok (k := 0) Nn (fun vs H Q E h => ?_) (fun cdv A outer s H vs Q E hr h => ?_)
 ·obtain ⟨p, dx, vh, vw, rfl, _⟩ := h
  rfl
 ·obtain ⟨p, dx, vh, vw, rfl, hp, k⟩ := h
  refine ⟨_, xo (VU (pv 0) (pv 1) rfl) (xo (VU (pv 0) (pv 2) rfl) (vy (VU (pv 0) (Ho xp) rfl))), ?_⟩
  refine ⟨_, rfl, _, rfl, p, C, dx, [], rfl, hp, cl, nH, (by show 0 < 1000; decide), _, rfl, _, rfl, p, C, dx, _, rfl, zz, cl, nW, (by show 1 < 1000; decide), ?_⟩
  refine ⟨g2e _, fun l hl => ?_⟩
  have npl : p ≠ l := zS (by rw [zz]) hl
  refine ⟨_, rfl, p, C, dx, _, rfl, (by rw [zE npl, zz]), cl, nM, (by
   show (kj "word" vw (kj "house" vh [])).length < 1000
   show (if ("house" : Str) = "word" then (("house" : Str), vw) :: [] else (("house" : Str), vh) :: kj "word" vw []).length < 1000
   rw [if_neg Fy]
   show 2 < 1000
   decide), ?_⟩
  have hl0 : H l = none := by rw [zE npl.symm, zE npl.symm] at hl; exact hl
  refine k l _ hl0 zz (by rw [zE npl.symm, zz]) fun b o e hb => ?_
  rw [zE hb, zE (zS e hl0), zE hb, zE hb]
  exact e
theorem Np : FnScope ["self", "move"] ["self", "move"] (zd sWD) := ⟨rfl, rfl, rfl, by decide +kernel, rfl, by decide +kernel, by decide +kernel⟩
theorem Mo {P : Program} {w : World} {K : W.Frag} {mg : Str -> Option Value} {base : Heap} {f C : Addr} {fd : FuncData} (F : Fun K "do" "Walk.do" sWD f fd) (cl : Cls K C) (nH : xA K C "house") (nW : xA K C "word") (nM : xA K C "moves")
  (h_after_move : HasFn P w K mg base 3 "after_move" 3 zl) : FnOk P w K mg base CX0 (3 + 1) f fd ["self", "move"] (Fs K C) := by
 obtain ⟨fa, fda, psa, F1, m1, k1, b1⟩ := h_after_move.ex
 refine F.ok (k := 3) Np (fun vs H Q E h => ?_) (fun cdv A outer s H vs Q E hr h => ?_)
 ·obtain ⟨p, dx, l, Hf, hd, wd, md, ms, vm, ws', rfl, _⟩ := h
  rfl
 ·obtain ⟨p, dx, l, Hf, hd, wd, md, ms, vm, ws', rfl, A1, hm, g1, k⟩ := h
  obtain ⟨vh, vw, o1, o2, o3⟩ := A1.ob
  unfold doD at g1
  cases e1 : zl [hd, wd, md] with
  | none => rw [e1] at g1; cases g1
  | some wd' =>
   rw [e1] at g1
   have g1 : (if ms.length < sizeLine then some (wd', ms ++ [md]) else none) = some ws' := g1
   split at g1
   ·rename_i hz
    cases g1
    refine ⟨_, xo (VU (pv 0) (Zk F1 hr rfl m1 k1 b1 .nil kD (z5 (qI (pv 0) rfl) (z5 (qI (pv 0) rfl) (z5 (pv 1) xp)))) rfl) (vy (uZ (De PySem.F.plainAttrs_list PySem.F.slot_list_append PySem.F.type_list_append Zq (qI (pv 0) rfl) (z5 (pv 1) xp)))), ?_⟩
    refine ⟨_, rfl, p, C, dx, _, _, rfl, o1, cl, nH, My _ _ _, _, rfl, p, C, dx, _, _, rfl, o1, cl, nW, DZ _ _ _, _, rfl, ?_⟩
    refine ⟨Hf, [hd, wd, md], wd', A1.sf, .cons o2 (.cons o3 (.cons hm .nil)), rfl, e1, fun v H1 Hf1 gr hv => ?_⟩
    have A2 := A1.grows gr
    have q1 := gr.h _ _ o1
    obtain ⟨A3, c3⟩ := A2.setWord q1 (o2.mono gr.f) hv
    refine ⟨_, rfl, p, C, dx, _, rfl, q1, cl, nW, (by rw [Vo]; show 3 < 1000; decide), ?_⟩
    rw [D0]
    obtain ⟨xs, l1, l2⟩ := A3.li
    obtain ⟨A4, c4⟩ := A3.more l1 l2 (hm.mono gr.f)
    refine ⟨_, rfl, p, C, dx, _, _, rfl, zz, cl, nM, M9 _ _ _, .inl ⟨rfl, _, SqL.of l1⟩, _, rfl, l, _, _, rfl, rfl, l1, (by rw [l2.length]; exact hz), ?_⟩
    exact k _ _ (((Chg.ofGrows gr).trans A2 c3).trans A3 c4) A4
   ·cases g1
theorem CM : FnScope ["self", "place", "mirror", "first", "turn", "signs", "k"] ["self", "place", "mirror"] (zd sWB) := ⟨rfl, rfl, rfl, by decide +kernel, rfl, by decide +kernel, by decide +kernel⟩
theorem wy {α : Type} {o : Option D} {k : D -> Option α} {r : α} (h : o.bind k = some r) : ∃ d, o = some d /\ k d = some r := by
 cases o with
 | none => cases h
 | some d => exact ⟨d, rfl, h⟩
theorem j4 {α : Type} {o : Option (List D)} {k : List D -> Option α} {r : α} (h : o.bind k = some r) : ∃ d, o = some d /\ k d = some r := by
 cases o with
 | none => cases h
 | some d => exact ⟨d, rfl, h⟩
theorem qF {α : Type} {o : Option WS} {k : WS -> Option α} {r : α} (h : o.bind k = some r) : ∃ d, o = some d /\ k d = some r := by
 cases o with
 | none => cases h
 | some d => exact ⟨d, rfl, h⟩
theorem jQ {f : D -> WS -> Option WS} {ks : List D} {i : Nat} {d : D} {ws we : WS} (hd : ks[i]? = some d) (h : vW f (ks.drop i) ws = some we) : ∃ w2, f d ws = some w2 /\ vW f (ks.drop (i + 1)) w2 = some we := by
 obtain ⟨hi, rfl⟩ := g0y.mp hd
 rw [g1f hi] at h
 unfold vW at h
 cases e : f ks[i] ws with
 | none => rw [e] at h; cases h
 | some w2 => rw [e] at h; exact ⟨w2, rfl, h⟩
theorem Mp {P : Program} {w : World} {K : W.Frag} {mg : Str -> Option Value} {base : Heap} {f fD C : Addr} {fd dD : FuncData} (F : Fun K "bring" "Walk.bring" sWB f fd) (T : Txt K mg) (cl : Cls K C) (nH : xA K C "house") (nW : xA K C "word") (nM : xA K C "moves")
  (bB : uO K fd ["self", "place", "mirror"] []) (mB : Meth K C "bring" f) (bD : uO K dD ["self", "move"] []) (mD : Meth K C "do" fD) (GD : FnOk P w K mg base CX0 (3 + 1) fD dD ["self", "move"] (Fs K C))
  (h_turn_of : HasFn P w K mg base 1 "turn_of" 3 zC) (h_in_turn : HasFn P w K mg base 1 "in_turn" 3 zF) : ∀ n : Nat, FnOk P w K mg base CX0 (8 + n) f fd ["self", "place", "mirror"] (FY K C n) := by
 obtain ⟨f2, fd2, ps2, F2, m2, k2, b2⟩ := h_turn_of.ex
 obtain ⟨f3, fd3, ps3, F3, m3, k3, b3⟩ := h_in_turn.ex
 intro n
 induction n with
 | zero =>
  refine ⟨fun vs H Q E h => ?_, fun A outer s H args us vs Q E hr e0 hb hv h => ?_⟩
  ·obtain ⟨p, dx, l, Hf, hd, wd, pd, md, ms, vp, vm, ws', rfl, _⟩ := h
   rfl
  ·obtain ⟨p, dx, l, Hf, hd, wd, pd, md, ms, vp, vm, ws', rfl, _, _, _, g, _⟩ := h
   cases g
 | succ n GB =>
  refine F.ok (k := 8 + n) CM (fun vs H Q E h => ?_) (fun cdv A outer s H vs Q E hr h => ?_)
  ·obtain ⟨p, dx, l, Hf, hd, wd, pd, md, ms, vp, vm, ws', rfl, _⟩ := h
   rfl
  ·obtain ⟨p, dx, l, Hf, hd, wd, pd, md, ms, vp, vm, ws', rfl, A1, hp, hm, g1, k⟩ := h
   obtain ⟨vh, vw, o1, o2, o3⟩ := A1.ob
   refine ⟨_, xo (Yc (i := 3) CM.nd rfl (Or.inl rfl) (Bk JR (qI (pv 0) rfl) (pv 1) (fun _ _ => rfl)))
    (xo (Bg (Q7 (Jj hr) (pv 3) (pv 2) (u5 _)) (vy Bf) WZ)
    (xo (Yc (i := 4) CM.nd rfl (Or.inl rfl) (Zk F2 (hr.mono (by omega)) rfl m2 k2 b2 .nil kD (z5 (qI (pv 0) rfl) (z5 (pv 3) (z5 (pv 2) xp)))))
    (xo (Yc (i := 5) CM.nd rfl (Or.inl rfl) (Zk F3 (hr.mono (by omega)) rfl m3 k3 b3 .nil kD (z5 (pv 3) (z5 (pv 2) (z5 (pv 4) xp)))))
    (xo (VT PassesOwn.never rfl (Wj rfl T.range_b (zx (DE.dr zg) (zx (DE.dr (dv 4)) zU))) (Zi (i := 6) CM.nd rfl (Or.inl rfl)) (vy (uZ (Zj (pv 0) cl mB GB hr bB .nil kD (z5 (zV (DE.dr (dv 1)) (DE.dr (dv 6))) (z5 (yY (DE.dr (dv 5)) (DE.dr (dv 6))) xp))))))
    (vy (uZ (Zj (pv 0) cl mD GD (hr.mono (by omega)) bD .nil kD (z5 (xq (za (Kk rfl T.TURN_c) (za (dv 1) (za (dv 3) (za (dv 2) zk))))) xp)))))))), ?_⟩
   unfold wY at g1
   cases e1 : ixD wd pd with
   | none => rw [e1] at g1; cases g1
   | some fd' =>
   rw [e1, g0a] at g1
   cases e2 : eqF fd' md with
   | none => rw [e2] at g1; cases g1
   | some bd =>
   rw [e2, g0a] at g1
   let X0 := GY CX0 P w K mg base [] "" (zd sWB) f cdv A outer s H E
   refine ⟨_, rfl, p, C, dx, _, _, rfl, o1, cl, nW, DZ _ _ _, _, rfl, Br (X := X0) Jl A1.sf o3 hp e1 fun v1 H1 Hf1 gr1 hv1 => ?_⟩
   refine ⟨_, rfl, _, rfl, Br (X := X0) Jn gr1.fh hv1 (hm.mono gr1.f) e2 fun v2 H2 Hf2 gr2 hv2 => ?_⟩
   have A2 := (A1.grows gr1).grows gr2
   have c2 : Chg p l H Hf H2 Hf2 := (Chg.ofGrows gr1).trans (A1.grows gr1) (Chg.ofGrows gr2)
   have f2 : yo Hf Hf2 := gr1.f.trans gr2.f
   cases bd with
   | bl b =>
    refine ⟨b, Has.bl_iff.mp hv2, ?_⟩
    cases b with
    | true =>
     cases g1
     exact Gy (k _ _ c2 A2)
    | false =>
     refine Gz ?_
     have g1 : ((zC [hd, fd', md]).bind fun td => (zF [fd', md, td]).bind fun sd => (ki [.int 1, td]).bind fun ks =>
      (vW (fun k ws => (yV pd k).bind fun pk => (ixD sd k).bind fun sk => wY zl zC zF hd n ws pk sk) ks (wd, ms)).bind fun ws' => doD zl hd ws' (.tup [.str "turn", pd, fd', md])) = some ws' := g1
     obtain ⟨td, e3, g2⟩ := wy g1
     obtain ⟨sd, e4, g3⟩ := wy g2
     obtain ⟨ks, e5, g4⟩ := j4 g3
     obtain ⟨we, e6, g5⟩ := qF g4
     obtain ⟨vh2, vw2, p1, p2, p3⟩ := A2.ob
     refine ⟨_, rfl, p, C, dx, _, _, rfl, p1, cl, nH, My _ _ _, _, rfl, _, rfl, ⟨Hf2, [hd, fd', md], td, A2.sf, .cons p2 (.cons (hv1.mono gr2.f) (.cons (hm.mono f2) .nil)), rfl, e3, fun v3 H3 Hf3 gr3 hv3 => ?_⟩⟩
     have A3 := A2.grows gr3
     have c3 := c2.trans A2 (Chg.ofGrows gr3)
     refine ⟨_, rfl, _, rfl, _, rfl, ⟨Hf3, [fd', md, td], sd, A3.sf, .cons ((hv1.mono gr2.f).mono gr3.f) (.cons (hm.mono (f2.trans gr3.f)) (.cons hv3 .nil)), rfl, e4, fun v4 H4 Hf4 gr4 hv4 => ?_⟩⟩
     have A4 := A3.grows gr4
     have c4 := c3.trans A3 (Chg.ofGrows gr4)
     have t4 : yo Hf Hf4 := (f2.trans gr3.f).trans gr4.f
     have w1 := hv1.mono ((gr2.f.trans gr3.f).trans gr4.f)
     have w3 := hv3.mono gr4.f
     have sl4 : ∀ {Hf6 : Hp} {o : Option V}, yo Hf4 Hf6 -> Sl K Hf6 [some (.ref p), some vp, some vm, some v1, some v3, some v4, o] [.no, .fr pd, .fr md, .fr fd', .fr td, .fr sd, .no] := fun t =>
      .no (.fr (hp.mono (t4.trans t)) (.fr (hm.mono (t4.trans t)) (.fr (w1.mono t) (.fr (w3.mono t) (.fr (hv4.mono t) (.no .nil))))))
     refine ⟨H4, Hf4, _, Hf4, ks, (sl4 (o := none) zB).rep A4.sf, (show CZ _ _ = some ks from e5), fun J H5 Hf5 R5 s5 t5 hw => ?_⟩
     have gr5 := R5.gr
     refine Zy hw (fun i σ H6 Hf6 => ∃ (wd6 : D) (ms6 : List D) (o : Option V), σ = [some (.ref p), some vp, some vm, some v1, some v3, some v4, o] /\ WAt K C p dx l H6 Hf6 hd wd6 ms6 /\ Chg p l H Hf H6 Hf6 /\ yo Hf5 Hf6 ∧
      vW (fun k ws => (yV pd k).bind fun pk => (ixD sd k).bind fun sk => wY zl zC zF hd n ws pk sk) (ks.drop i) (wd6, ms6) = some we)
      ⟨wd, ms, none, rfl, A4.grows gr5, c4.trans A4 (Chg.ofGrows gr5), zB, e6⟩ (fun i σ H6 Hf6 ⟨_, _, _, _, A6, _, t6, _⟩ => ⟨t6, A6.sf⟩) ?_ ?_
     ·rintro i d σ H6 Hf6 x H7 Hf7 hdi ⟨wd6, ms6, o, rfl, A6, c6, t6, lp⟩ gr7 hx
      obtain ⟨w2, l1, l2⟩ := jQ hdi lp
      obtain ⟨pk, l3, l4⟩ := wy l1
      obtain ⟨sk, l5, l6⟩ := wy l4
      have A7 := A6.grows gr7
      have c7 := c6.trans A6 (Chg.ofGrows gr7)
      obtain ⟨vh7, vw7, q1, q2, q3⟩ := A7.ob
      have tt7 : yo Hf4 Hf7 := (gr5.f.trans t6).trans gr7.f
      have sl7 : ∀ {Hf8 : Hp}, yo Hf7 Hf8 -> Sl K Hf8 [some (.ref p), some vp, some vm, some v1, some v3, some v4, some x] [.no, .fr pd, .fr md, .fr fd', .fr td, .fr sd, .fr d] := fun t =>
       .no (.fr (hp.mono (t4.trans (tt7.trans t))) (.fr (hm.mono (t4.trans (tt7.trans t))) (.fr (w1.mono (tt7.trans t)) (.fr (w3.mono (tt7.trans t)) (.fr (hv4.mono (tt7.trans t)) (.fr (hx.mono t) .nil))))))
      refine ⟨_, rfl, p, dx, _, rfl, q1, Qd _ _ _ (by decide +kernel) (by decide +kernel) (by decide +kernel), Vq A7.sf (sl7 zB) (show yV pd d = some pk from l3) fun v8 H8 Hf8 gr8 hv8 => ?_⟩
      have A8 := A7.grows gr8
      refine Vq A8.sf (sl7 gr8.f) (show ixD sd d = some sk from l5) fun v9 H9 Hf9 gr9 hv9 => ?_
      have A9 := A8.grows gr9
      refine ⟨p, dx, l, Hf9, hd, wd6, pk, sk, ms6, v8, v9, w2, rfl, A9, hv8.mono gr9.f, hv9, l6, fun H10 Hf10 c10 A10 => ?_⟩
      exact ⟨Hf10, w2.1, w2.2, some x, rfl, A10, ((c7.trans A7 (Chg.ofGrows gr8)).trans A8 (Chg.ofGrows gr9)).trans A9 c10, (t6.trans gr7.f).trans ((gr8.f.trans gr9.f).trans c10.f), l2⟩
     ·rintro σ H6 Hf6 ⟨wd6, ms6, o, rfl, A6, c6, t6, lp⟩
      rw [List.drop_length] at lp
      cases lp
      obtain ⟨vh7, vw7, q1, q2, q3⟩ := A6.ob
      have tt6 : yo Hf4 Hf6 := gr5.f.trans t6
      have hs4 : (4 : Nat) <= sizeLine := g2t (ua (by decide))
      refine ⟨_, rfl, p, dx, _, rfl, q1, Qd _ _ _ (by decide +kernel) (by decide +kernel) (by decide +kernel), Vq (d := .tup [.str "turn", pd, fd', md]) A6.sf (sl4 tt6) (by
       simp only [x6, zm, zv, xc, yk, g0b, g0c, g0a, g0d, g0e, Nat.reduceAdd, hs4, if_true]) fun v8 H8 Hf8 gr8 hv8 => ?_⟩
      exact ⟨p, dx, l, Hf8, hd, _, _, _, v8, ws', rfl, A6.grows gr8, hv8, g5, fun H9 Hf9 c9 A9 => k _ _ ((c6.trans A6 (Chg.ofGrows gr8)).trans (A6.grows gr8) c9) A9⟩
   | _ => cases g1
theorem FZ {K : W.Frag} {H Hf : Hp} {es : List D} {v : V} {lo hi : Option Int} {Q : VK} (sf : yo Hf H) (hv : Has K Hf (.tup es) v) (k : ∀ v' H' Hf', Grows H Hf H' Hf' -> Has K Hf' (.tup (jC es lo hi)) v' -> Q v' H') : C2 K v lo hi H Q := by
 obtain ⟨a, xs, rfl, qa, la⟩ := Has.tup_iff.mp hv
 refine ⟨a, xs, rfl, uT sf qa, fun hw => ?_, fun hw p hp => ?_⟩
 ·rw [la.length] at hw
  exact k _ _ _ (Grows.refl sf) (by rw [Wk hw]; exact hv)
 ·have R := ((Sl.nil (K := K) (Hf := Hf)).rep sf).lay (o := .tup (Qi xs lo hi)) hp
  have sm := zM (o := .tup (Qi xs lo hi)) (sf.free hp)
  exact k _ _ _ R.gr (Has.tup_iff.mpr ⟨p, _, rfl, SqT.of zz, (la.cut lo hi).mono sm⟩)
theorem MN : FnScope ["self", "place"] ["self"] (zd sWS) := ⟨rfl, rfl, rfl, by decide +kernel, rfl, by decide +kernel, by decide +kernel⟩
theorem Mm {P : Program} {w : World} {K : W.Frag} {mg : Str -> Option Value} {base : Heap} {f fD fB C : Addr} {fd dD dB : FuncData} (F : Fun K "shorten" "Walk.shorten" sWS f fd) (T : Txt K mg) (cl : Cls K C) (nH : xA K C "house") (nW : xA K C "word") (nM : xA K C "moves")
  (bB : uO K dB ["self", "place", "mirror"] []) (mB : Meth K C "bring" fB) (bD : uO K dD ["self", "move"] []) (mD : Meth K C "do" fD) (GD : FnOk P w K mg base CX0 (3 + 1) fD dD ["self", "move"] (Fs K C))
  (GB : FnOk P w K mg base CX0 (8 + 12) fB dB ["self", "place", "mirror"] (FY K C 12)) (h_is_short : HasFn P w K mg base 7 "is_short" 2 yf) : FnOk P w K mg base CX0 21 f fd ["self"] (ML K C 12) := by
 obtain ⟨f2, fd2, ps2, F2, m2, k2, b2⟩ := h_is_short.ex
 refine F.ok (k := 20) MN (fun vs H Q E h => ?_) (fun cdv A outer s H vs Q E hr h => ?_)
 ·obtain ⟨p, dx, l, Hf, hd, wd, ms, ws', rfl, _⟩ := h
  rfl
 ·obtain ⟨p, dx, l, Hf, hd, wd, ms, ws', rfl, A1, g1, k⟩ := h
  obtain ⟨vh, vw, o1, o2, o3⟩ := A1.ob
  refine ⟨_, vy (VT PassesOwn.never rfl (Jb rfl T.range_b (z5 (C9 Hr (YT vG rfl T.len_b PySem.boot_len (z5 (qI (pv 0) rfl) xp)) Hq) (z5 (vE (DE.dr zg)) (z5 (vE (DE.dr zg)) xp)))) (Zi (i := 1) MN.nd rfl (Or.inl rfl))
   (vy (Bg (Hg (He (Zk F2 (hr.mono (by omega)) rfl m2 k2 b2 .nil kD (z5 (qI (pv 0) rfl) (z5 (VY QP (qI (pv 0) rfl) (Q9 (pv 1)) Ja) xp)))))
    (xo (uZ (Zj (pv 0) cl mB GB hr bB .nil kD (z5 (zV (DE.dr (dv 1)) (DE.dr zg)) (z5 (Bk JR (qI (pv 0) rfl) (pv 1) (fun _ _ => rfl)) xp))))
     (vy (uZ (Zj (pv 0) cl mD GD (hr.mono (by omega)) bD .nil kD (z5 (xq (za (Kk rfl T.DROP_c) (za (dv 1) zk))) xp))))) WZ))), ?_⟩
  unfold Zb at g1
  cases wd with
  | tup ds =>
   have g1 : ((VQ [.int ((ds.length : Int) - 1), .int (-1), .int (-1)]).bind fun ks =>
    vW (kf zl zC zF yf hd 12) ks (.tup ds, ms)) = some ws' := g1
   obtain ⟨ks, e1, g2⟩ := j4 g1
   have e1 : (if (-1 : Int) = -1 /\ -1000000 <= (ds.length : Int) - 1 /\ (ds.length : Int) - 1 <= 1000000 /\ -1000000 <= (-1 : Int) /\ (-1 : Int) <= 1000000 then some (Wi ((ds.length : Int) - 1) (-1)) else none) = some ks := e1
   split at e1
   ·rename_i hb
    cases e1
    obtain ⟨a, xs, rfl, qa, la⟩ := Has.tup_iff.mp o3
    refine ⟨_, rfl, p, C, dx, _, _, rfl, o1, cl, nW, DZ _ _ _, .inl ⟨a, xs, rfl, .inr (uT A1.sf qa), ?_⟩⟩
    refine ⟨_, _, rfl, rfl, ?_⟩
    have sl1 : Sl K Hf [some (.ref p), none] [.no, .no] := .no (.no .nil)
    refine Vq (d := .int (-1)) A1.sf sl1 rfl fun v1 H1 Hf1 gr1 hv1 => Vq (d := .int (-1)) gr1.fh (sl1.mono gr1.f) rfl fun v2 H2 Hf2 gr2 hv2 => ?_
    have A2 := (A1.grows gr1).grows gr2
    have c2 : Chg p l H Hf H2 Hf2 := (Chg.ofGrows gr1).trans (A1.grows gr1) (Chg.ofGrows gr2)
    refine ⟨(xs.length : Int) - 1, -1, by rw [Has.int_iff.mp hv1, Has.int_iff.mp hv2], by rw [la.length]; exact hb.2, ?_⟩
    refine Zy (Ux (K := K) (Hf := Hf2)) (fun i σ H6 Hf6 => ∃ (wd6 : D) (ms6 : List D) (o : Option V), σ = [some (.ref p), o] /\ WAt K C p dx l H6 Hf6 hd wd6 ms6 /\ Chg p l H Hf H6 Hf6 /\ yo Hf2 Hf6 ∧
     vW (kf zl zC zF yf hd 12) (((g1e (((xs.length : Int) - 1) - -1).toNat).map fun (k : Nat) => D.int (((xs.length : Int) - 1) - (k : Int))).drop i) (wd6, ms6) = some ws')
     ⟨.tup ds, ms, none, rfl, A2, c2, zB, (by rw [la.length]; exact g2)⟩ (fun i σ H6 Hf6 ⟨_, _, _, _, A6, _, t6, _⟩ => ⟨t6, A6.sf⟩) ?_ ?_
    ·rintro i d σ H6 Hf6 x H7 Hf7 hdi ⟨wd6, ms6, o, rfl, A6, c6, t6, lp⟩ gr7 hx
     obtain ⟨w2, l1, l2⟩ := jQ hdi lp
     have A7 := A6.grows gr7
     have c7 := c6.trans A6 (Chg.ofGrows gr7)
     obtain ⟨vh7, vw7, q1, q2, q3⟩ := A7.ob
     cases wd6 with
     | tup es =>
      cases d with
      | int i7 =>
       have l1 : ((yf [hd, .tup (jC es (some i7) none)]).bind fun
        | .bl true => some (D.tup es, ms6)
        | .bl false => (ixD (.tup es) (.int i7)).bind fun fd => (wY zl zC zF hd 12 (.tup es, ms6) (.int (i7 + 1)) fd).bind fun ws' => doD zl hd ws' (.tup [.str "drop", .int i7])
        | _ => none) = some w2 := l1
       obtain ⟨bd, l3, l4⟩ := wy l1
       cases Has.int_iff.mp hx
       refine ⟨_, rfl, p, C, dx, _, _, rfl, q1, cl, nH, My _ _ _, _, rfl, p, C, dx, _, _, rfl, q1, cl, nW, DZ _ _ _, _, rfl, i7, rfl, ?_⟩
       simp only [QG]
       refine FZ A7.sf q3 fun v8 H8 Hf8 gr8 hv8 => ?_
       have A8 := A7.grows gr8
       have c8 := c7.trans A7 (Chg.ofGrows gr8)
       refine ⟨Hf8, [hd, .tup (jC es (some i7) none)], bd, A8.sf, .cons (q2.mono gr8.f) (.cons hv8 .nil), rfl, l3, fun v9 H9 Hf9 gr9 hv9 => ?_⟩
       have A9 := A8.grows gr9
       have c9 := c8.trans A8 (Chg.ofGrows gr9)
       have t9 : yo Hf2 Hf9 := ((t6.trans gr7.f).trans gr8.f).trans gr9.f
       cases bd with
       | bl b =>
        refine ⟨b, Has.bl_iff.mp hv9, ?_⟩
        cases b with
        | true =>
         cases l4
         refine Gz ?_
         exact ⟨Hf9, .tup es, ms6, _, rfl, A9, c9, t9, l2⟩
        | false =>
         refine Gy ?_
         have l4 : ((ixD (.tup es) (.int i7)).bind fun fd => (wY zl zC zF hd 12 (.tup es, ms6) (.int (i7 + 1)) fd).bind fun ws' => doD zl hd ws' (.tup [.str "drop", .int i7])) = some w2 := l4
         obtain ⟨fd', l5, l6⟩ := wy l4
         obtain ⟨w3, l7, l8⟩ := qF l6
         obtain ⟨vh9, vw9, r1, r2, r3⟩ := A9.ob
         have sl9 : ∀ {Hf' : Hp}, Sl K Hf' [some (.ref p), some (.int i7)] [.no, .fr (.int i7)] := .no (.fr (Has.int_iff.mpr rfl) .nil)
         let X0 := GY CX0 P w K mg base [] "" (zd sWS) f cdv A outer s H E
         refine ⟨_, rfl, p, dx, _, rfl, r1, Qd _ _ _ (by decide +kernel) (by decide +kernel) (by decide +kernel), Vq (d := .int (i7 + 1)) A9.sf sl9 rfl fun v10 H10 Hf10 gr10 hv10 => ?_⟩
         have A10 := A9.grows gr10
         obtain ⟨vh10, vw10, s1, s2, s3⟩ := A10.ob
         refine ⟨_, rfl, p, C, dx, _, _, rfl, s1, cl, nW, DZ _ _ _, _, rfl, Br (X := X0) Jl A10.sf s3 (Has.int_iff.mpr rfl) l5 fun v11 H11 Hf11 gr11 hv11 => ?_⟩
         have A11 := A10.grows gr11
         have c11 := (c9.trans A9 (Chg.ofGrows gr10)).trans A10 (Chg.ofGrows gr11)
         refine ⟨p, dx, l, Hf11, hd, .tup es, .int (i7 + 1), fd', ms6, v10, v11, w3, rfl, A11, hv10.mono gr11.f, hv11, l7, fun H12 Hf12 c12 A12 => ?_⟩
         obtain ⟨vh12, vw12, u1, u2, u3⟩ := A12.ob
         have hs2 : (2 : Nat) <= sizeLine := g2t (ua (by decide))
         refine ⟨_, rfl, p, dx, _, rfl, u1, Qd _ _ _ (by decide +kernel) (by decide +kernel) (by decide +kernel), Vq (d := .tup [.str "drop", .int i7]) A12.sf sl9 (by
          simp only [x6, zm, zv, xc, yk, g0b, g0c, g0a, g0d, g0e, Nat.reduceAdd, hs2, if_true]) fun v13 H13 Hf13 gr13 hv13 => ?_⟩
         have A13 := A12.grows gr13
         refine ⟨p, dx, l, Hf13, hd, _, _, _, v13, w2, rfl, A13, hv13, l8, fun H14 Hf14 c14 A14 => ?_⟩
         exact ⟨Hf14, w2.1, w2.2, _, rfl, A14, ((c11.trans A11 c12).trans A12 (Chg.ofGrows gr13)).trans A13 c14, (t9.trans (gr10.f.trans gr11.f)).trans ((c12.f.trans gr13.f).trans c14.f), l2⟩
       | _ => cases l4
      | _ => cases l1
     | _ => cases l1
    ·rintro σ H6 Hf6 ⟨wd6, ms6, o, rfl, A6, c6, t6, lp⟩
     rw [List.drop_length] at lp
     cases lp
     exact k _ _ c6 A6
   ·cases e1
  | _ => cases g1
noncomputable def uv : List D -> Option D := DC zl zC zF yf vX 12
theorem uA : FnScope ["house", "word", "walk", "place", "mirror"] ["house", "word"] (zd vd) := ⟨rfl, rfl, rfl, by decide +kernel, rfl, by decide +kernel, by decide +kernel⟩
theorem W3 (Fn : Fun K "to_least" "to_least" vd f fd) (T : Txt K mg) (W : Fo K mg)
  (h_after_move : HasFn P w K mg base 3 "after_move" 3 zl) (h_in_turn : HasFn P w K mg base 1 "in_turn" 3 zF) (h_is_short : HasFn P w K mg base 7 "is_short" 2 yf) (h_least : HasFn P w K mg base 6 "least" 2 vX) (h_turn_of : HasFn P w K mg base 1 "turn_of" 3 zC) :
  FnOk P w K mg base CX0 24 f fd ["house", "word"] (spF K 2 uv) := by
 obtain ⟨C, fI, fD, fB, fS, dI, dD, dB, dS, cl, nH, nW, nM, mgC, FI, FD, FB, FS, bI, bD, bB, bS, mk, mD, mB, mS⟩ := W
 have GI : FnOk P w K mg base CX0 1 fI dI ["self", "house", "word"] (MM C) := Mn FI cl nH nW nM
 have GD : FnOk P w K mg base CX0 (3 + 1) fD dD ["self", "move"] (Fs K C) := Mo FD cl nH nW nM h_after_move
 have GB : FnOk P w K mg base CX0 (8 + 12) fB dB ["self", "place", "mirror"] (FY K C 12) := Mp FB T cl nH nW nM bB mB bD mD GD h_turn_of h_in_turn 12
 have GS : FnOk P w K mg base CX0 21 fS dS ["self"] (ML K C 12) := Mm FS T cl nH nW nM bB mB bD mD GD GB h_is_short
 refine FnOk.mono (j := 22) ?_ (by decide)
 refine Fn.ok (k := 21) uA (fun vs H Q E h => ?_) (fun cdv A outer s H vs Q E hr h => ?_)
 ·obtain ⟨Hf, ds, d, _, h1, h2, _⟩ := h
  rw [h1.length]; exact h2
 ·obtain ⟨Hf, ds, d, sf, h1, h2, h3, k⟩ := h
  obtain ⟨hd, wd, rfl⟩ : ∃ hd wd, ds = [hd, wd] := by
   match ds, h2 with
   | [a, b], _ => exact ⟨a, b, rfl⟩
  obtain ⟨vh, r1, rfl, hh, h1⟩ := ya.cons_iff.mp h1
  obtain ⟨vw, r2, rfl, hw, h1⟩ := ya.cons_iff.mp h1
  cases ya.nil_iff.mp h1
  have g1 : ((Zb zl zC zF yf hd 12 (wd, [])).bind fun ws => (vX [hd, wd]).bind fun ld => (YE ld).bind fun ds =>
   (vW (X5 zl zC zF hd 12) (wR ds) ws).bind fun ws' => some (D.lst ws'.2)) = some d := h3
  obtain ⟨w1, e1, g2⟩ := qF g1
  obtain ⟨ld, e2, g3⟩ := wy g2
  obtain ⟨ls, e3, g4⟩ := j4 g3
  obtain ⟨w2, e4, g5⟩ := qF g4
  cases g5
  refine ⟨_, xo (Yc (i := 2) uA.nd rfl (Or.inl rfl) (Bj mk GI (hr.mono (by decide)) rfl mgC bI .nil kD (z5 (pv 0) (z5 (pv 1) xp))))
   (xo (uZ (K6 (pv 2) cl mS GS hr bS .nil kD))
   (xo (VT PassesOwn.never rfl (ZD rfl T.enumerate_b (zr h_least (hr.mono (by decide)) rfl (za (dv 0) (za (dv 1) zk)) (zo (zo zX)))) (Hl rfl (YS (Zi (i := 3) uA.nd rfl (Or.inl rfl)) (YS (Zi (i := 4) uA.nd rfl (Or.inl rfl)) Je)))
    (vy (uZ (Zj (pv 2) cl mB GB (hr.mono (by decide)) bB .nil kD (z5 (pv 3) (z5 (pv 4) xp))))))
   (vy (Hh (qI (pv 2) rfl))))), ?_⟩
  refine ⟨_, rfl, _, rfl, ?_⟩
  intro p dx np ndx nex
  refine ⟨p, dx, vh, vw, rfl, zz, fun l H1 nl q1 q2 q3 => ⟨rfl, ?_⟩⟩
  have hm : ∀ b o, H b = some o -> H1 b = some o := fun b o e => q3 b o (by rw [zE (zS e np), zE (zS e ndx)]; exact e) (zS e np)
  have npl : l ≠ p := fun z => by subst z; rw [zz] at nl; cases nl
  have nl0 : H l = none := by
   cases z : H l with
   | none => rfl
   | some o => rw [zE npl, zE (zS z ndx), z] at nl; cases nl
  have A1 : WAt K C p dx l H1 Hf hd wd [] := ⟨fun b o e => hm b o (sf b o e), ⟨vh, vw, q1, hh, hw⟩, ⟨[], q2, .nil⟩, sf.free np, sf.free nl0⟩
  have c1 : Chg p l H Hf H1 Hf := ⟨fun b o e _ _ => hm b o e, zB, fun b o e => .inl e⟩
  refine ⟨_, rfl, p, dx, _, rfl, q1, Qd _ _ _ (by decide +kernel) (by decide +kernel) (by decide +kernel), ⟨p, dx, l, Hf, hd, wd, [], w1, rfl, A1, e1, fun H2 Hf2 c2 A2 => ?_⟩⟩
  have sl2 : ∀ {Hf' : Hp} {o1 o2 : Option V}, yo Hf Hf' -> Sl K Hf' [some vh, some vw, some (.ref p), o1, o2] [.fr hd, .fr wd, .no, .no, .no] := fun t => .fr (hh.mono t) (.fr (hw.mono t) (.no (.no (.no .nil))))
  have en : qd (zO vX (zb (vF 0) (zb (vF 1) zu))) [.fr hd, .fr wd, .no, .no, .no] = some (wR ls) := by
   simp only [kI, yB, zD, zm, zv, yk, g0b, g0c, g0a, e2, e3]
  refine ⟨H2, Hf2, _, Hf2, wR ls, (sl2 (o1 := none) (o2 := none) c2.f).rep A2.sf, en, fun J H3 Hf3 R3 s3 t3 hwk => ?_⟩
  have gr3 := R3.gr
  refine Zy hwk (fun i σ H6 Hf6 => ∃ (wd6 : D) (ms6 : List D) (o1 o2 : Option V), σ = [some vh, some vw, some (.ref p), o1, o2] /\ WAt K C p dx l H6 Hf6 hd wd6 ms6 /\ Chg p l H Hf H6 Hf6 /\ yo Hf3 Hf6 ∧
   vW (X5 zl zC zF hd 12) ((wR ls).drop i) (wd6, ms6) = some w2)
   ⟨w1.1, w1.2, none, none, rfl, A2.grows gr3, (c1.trans A1 c2).trans A2 (Chg.ofGrows gr3), zB, e4⟩ (fun i σ H6 Hf6 ⟨_, _, _, _, _, A6, _, t6, _⟩ => ⟨t6, A6.sf⟩) ?_ ?_
  ·rintro i d σ H6 Hf6 x H7 Hf7 hdi ⟨wd6, ms6, o1, o2, rfl, A6, c6, t6, lp⟩ gr7 hx
   obtain ⟨w3, l1, l2⟩ := jQ hdi lp
   obtain ⟨y, _, rfl⟩ := Wg hdi
   have A7 := A6.grows gr7
   have c7 := c6.trans A6 (Chg.ofGrows gr7)
   obtain ⟨vh7, vw7, u1, u2, u3⟩ := A7.ob
   obtain ⟨a, xs, rfl, qa, la⟩ := Has.tup_iff.mp hx
   obtain ⟨y1, r1, rfl, z1, la⟩ := ya.cons_iff.mp la
   obtain ⟨y2, r2, rfl, z2, la⟩ := ya.cons_iff.mp la
   cases ya.nil_iff.mp la
   refine ⟨a, _, rfl, uT A7.sf qa, rfl, _, _, rfl, _, _, rfl, rfl, ?_⟩
   refine ⟨_, rfl, p, dx, _, rfl, u1, Qd _ _ _ (by decide +kernel) (by decide +kernel) (by decide +kernel), _, rfl, _, rfl, ?_⟩
   refine ⟨p, dx, l, Hf7, hd, wd6, .int i, y, ms6, y1, y2, w3, rfl, A7, z1, z2, l1, fun H8 Hf8 c8 A8 => ?_⟩
   exact ⟨Hf8, w3.1, w3.2, _, _, rfl, A8, c7.trans A7 c8, (t6.trans gr7.f).trans c8.f, l2⟩
  ·rintro σ H6 Hf6 ⟨wd6, ms6, o1, o2, rfl, A6, c6, t6, lp⟩
   rw [List.drop_length] at lp
   cases lp
   obtain ⟨vh7, vw7, u1, u2, u3⟩ := A6.ob
   obtain ⟨xs, v1, v2⟩ := A6.li
   refine ⟨_, rfl, p, C, dx, _, _, rfl, u1, cl, nM, M9 _ _ _, ?_⟩
   have sm : yo Hf6 (upd Hf6 l (.lst xs)) := zM A6.nl
   refine k (.ref l) H6 (upd Hf6 l (.lst xs)) ⟨fun b o e => c6.k b o e (zS e np) (zS e nl0), c6.f.trans sm, fun b o e => ?_, fun b o e => ?_⟩ (Has.lst_iff.mpr ⟨l, xs, rfl, SqL.of zz, v2.mono sm⟩)
   ·by_cases hb : b = l
    ·subst hb
     rw [zz] at e
     cases e
     exact v1
    ·rw [zE hb] at e
     exact A6.sf b o e
   ·by_cases hb : b = l
    ·subst hb
     exact .inr (.inl nl0)
    ·rw [zE hb] at e
     exact c6.nw b o e
noncomputable def uK : FS := (yh (ifS (blF (zc ltD (vF 1) (zO WG (zb (vF 0) zu)))) (yv (zc ixD (vF 0) (vF 1))) nxF) (yv (cF (.int 0))))
noncomputable def zT : List D -> Option D := vJ 2 uK
theorem XA : FnScope ["_law_script", "_law_k"] ["_law_script", "_law_k"] (zd x9) := ⟨rfl, rfl, rfl, by decide +kernel, rfl, by decide +kernel, by decide +kernel⟩
theorem XS (Fn : Fun K "_law_cell_at" "_law_cell_at" x9 f fd) (T : Txt K mg)  :
  FnOk P w K mg base CX0 1 f fd ["_law_script", "_law_k"] (spF K 2 zT) :=
 yb (k := 0) (m := 2) (F := uK) rfl rfl Fn XA fun cdv A outer s H E hr => (ze (yT (GP (DE.dr (dv 1)) (DE.dr (wu vG jW rfl T.len_b (by rfl) (zx (DE.dr (dv 0)) zU)))) (zi (zw (yY (DE.dr (dv 0)) (DE.dr (dv 1))))) zL) (zi (zw zg)))
noncomputable def Xm : FS := (yh (ifS (blF (zc geD (vF 0) (zc Cw (cF (.int 10)) (cF (.int 12))))) (yh (xb 0 (zc Ky (zc qU (vF 0) (zc Cw (cF (.int 10)) (cF (.int 12)))) (cF (.int 1)))) (yh (kF (YO (zb (zc qQ (vF 1) (cF (.int 61))) zu)) (zJ 2) (xb 0 (zc qU (vF 0) (cF (.int 2147483648))))) (yv (zc qQ (vF 0) (cF (.int 2147483648)))))) nxF) (yh (xb 3 (zc qQ (zc wJ (zc yV (zc yV (zc qQ (vF 0) (cF (.int 1000003))) (zc wJ (zc wJ (vF 1) (vF 1)) (cF (.int 7919)))) (vF 1)) (cF (.int 48271))) (cF (.int 2147483629)))) (yh (xb 3 (zc qQ (zc wJ (vF 3) (vF 3)) (cF (.int 2147483587)))) (yv (zc qU (zc qQ (zc wJ (vF 3) (zc yV (vF 3) (cF (.int 2)))) (cF (.int 2147483579))) (cF (.int 7)))))))
noncomputable def xH : List D -> Option D := vJ 4 Xm
theorem qt : FnScope ["_law_cell", "_law_k", "_law_turn", "_law_number"] ["_law_cell", "_law_k"] (zd jL) := ⟨rfl, rfl, rfl, by decide +kernel, rfl, by decide +kernel, by decide +kernel⟩
theorem Gj (Fn : Fun K "_law_mix" "_law_mix" jL f fd) (T : Txt K mg)  :
  FnOk P w K mg base CX0 1 f fd ["_law_cell", "_law_k"] (spF K 2 xH) :=
 yb (k := 0) (m := 4) (F := Xm) rfl rfl Fn qt fun cdv A outer s H E hr => (ze (yT (Kd (DE.dr (dv 0)) (DE.dr (Fc (DE.dr zg) (DE.dr zg)))) (ze (zZ 0 qt.nd (Kh (DE.dr (kz (DE.dr (dv 0)) (DE.dr (Fc (DE.dr zg) (DE.dr zg))))) (DE.dr zg))) (ze (xZ PassesOwn.never rfl (xk rfl T.range_b (zx (DE.dr (uy (DE.dr (dv 1)) (DE.dr zg))) zU)) (zQ 2 qt.nd) (zi (zZ 0 qt.nd (kz (DE.dr (dv 0)) (DE.dr zg))))) (zi (zw (uy (DE.dr (dv 0)) (DE.dr zg)))))) zL) (ze (zZ 3 qt.nd (uy (DE.dr (x4 (DE.dr (zV (DE.dr (zV (DE.dr (uy (DE.dr (dv 0)) (DE.dr zg))) (DE.dr (x4 (DE.dr (x4 (DE.dr (dv 1)) (DE.dr (dv 1)))) (DE.dr zg))))) (DE.dr (dv 1)))) (DE.dr zg))) (DE.dr zg))) (ze (zZ 3 qt.nd (uy (DE.dr (x4 (DE.dr (dv 3)) (DE.dr (dv 3)))) (DE.dr zg))) (zi (zw (kz (DE.dr (uy (DE.dr (x4 (DE.dr (dv 3)) (DE.dr (zV (DE.dr (dv 3)) (DE.dr zg))))) (DE.dr zg))) (DE.dr zg)))))))
noncomputable def ZO : FS := (yv (HH (y0 (Hy "int") (vF 0)) (Mq (y0 (Hy "bool") (vF 0)))))
noncomputable def vA : List D -> Option D := vJ 1 ZO
theorem UI : FnScope ["_law_found"] ["_law_found"] (zd ug) := ⟨rfl, rfl, rfl, by decide +kernel, rfl, by decide +kernel, by decide +kernel⟩
theorem UV (Fn : Fun K "_law_whole" "_law_whole" ug f fd) (T : Txt K mg)  :
  FnOk P w K mg base CX0 1 f fd ["_law_found"] (spF K 1 vA) :=
 yb (k := 0) (m := 1) (F := ZO) rfl rfl Fn UI fun cdv A outer s H E hr => (zi (zw (Qh (Ul CD (DE.dr (dv 0)) rfl T.isinstance_b rfl T.int_b) (Ki (MC (Ul HM (DE.dr (dv 0)) rfl T.isinstance_b rfl T.bool_b))))))
noncomputable def ZQ : FS := (yh (xb 2 (zc yV (cF (.int 1)) (zc qQ (zO zT (zb (vF 0) (zb (cF (.int 0)) zu))) (vF 1)))) (yh (xb 3 (zO xH (zb (zO zT (zb (vF 0) (zb (cF (.int 0)) zu))) (zb (cF (.int 1)) zu)))) (yh (Cz 4 (Yi zu)) (yh (kF (YO (zb (vF 2) zu)) (zJ 5) (kF (CZ (zb (zc yV (vF 5) (cF (.int 1))) (zb (vF 2) zu))) (zJ 6) (yh (xb 7 (zO xH (zb (zO zT (zb (vF 0) (zb (zc yV (cF (.int 1)) (vF 5)) zu))) (zb (zc yV (zc wJ (cF (.int 10)) (vF 5)) (vF 6)) zu)))) (yh (xb 8 (zc ixD (yI (Yi (zb (cF (.int 2)) (zb (cF (.int 3)) (zb (cF (.int 4)) (zb (cF (.int 5)) (zb (cF (.int 6)) (zb (cF (.int 0)) (zb (cF (.int 3)) (zb (cF (.int 2)) zu)))))))))) (zc qQ (vF 7) (cF (.int 8))))) (yh (ifS (blF (zc eqF (zc qQ (vF 3) (cF (.int 3))) (cF (.int 1)))) (yh (xb 8 (zc ixD (yI (Yi (zb (cF (.int 2)) (zb (cF (.int 3)) zu)))) (zO Vj (zb (zc eqF (vF 6) (zc yV (vF 5) (cF (.int 1)))) zu)))) (ifS (Vx (blF (zc eqF (vF 6) (zc yV (vF 5) (cF (.int 1))))) (Vx (blF (zc eqF (zc qQ (zc qU (vF 3) (cF (.int 3))) (cF (.int 3))) (cF (.int 1)))) (blF (zc eqF (vF 6) (zc Ky (vF 2) (cF (.int 1))))))) (xb 8 (zc ixD (yI (Yi (zb (cF (.int 4)) (zb (cF (.int 5)) zu)))) (zc qQ (zc qU (vF 3) (cF (.int 9))) (cF (.int 2))))) nxF)) nxF) (yh (ifS (Vx (blF (zc eqF (zc qQ (vF 3) (cF (.int 3))) (cF (.int 2)))) (Vx (blF (zc neF (vF 6) (zc yV (vF 5) (cF (.int 1))))) (blF (zc gtD (zc qQ (zc qU (vF 7) (cF (.int 8))) (cF (.int 3))) (cF (.int 0)))))) (xb 8 (cF (.int 2))) nxF) (ifS (blF (zc neF (vF 8) (cF (.int 2)))) (qp 4 (tupF (zb (vF 5) (zb (vF 6) (zb (vF 8) zu))))) nxF))))))) (yh (ifS (blF (zc eqF (zc qQ (zc qU (vF 3) (cF (.int 27))) (cF (.int 2))) (cF (.int 1)))) (Cz 4 (Md (vR 4) (y0 qJ (cF (.int 1))))) nxF) (DV 4 (yv (tupF (zb (vF 2) (zb (vF 4) zu))))))))))
noncomputable def vC : List D -> Option D := vJ 9 ZQ
theorem yO : FnScope ["_law_script", "_law_most", "_law_mirrors", "_law_kind", "_law_turns", "_law_i", "_law_j", "_law_drawn", "_law_m_here"] ["_law_script", "_law_most"] (zd uj) := ⟨rfl, rfl, rfl, by decide +kernel, rfl, by decide +kernel, by decide +kernel⟩
theorem UY (Fn : Fun K "_law_house" "_law_house" uj f fd) (T : Txt K mg) (h_l_cell_at : HasFn P w K mg base 1 "_law_cell_at" 2 zT) (h_l_mix : HasFn P w K mg base 1 "_law_mix" 2 xH) :
  FnOk P w K mg base CX0 2 f fd ["_law_script", "_law_most"] (spF K 2 vC) :=
 yb (k := 1) (m := 9) (F := ZQ) rfl rfl Fn yO fun cdv A outer s H E hr => (ze (zZ 2 yO.nd (zV (DE.dr zg) (DE.dr (uy (DE.dr (zr h_l_cell_at (hr.mono (by decide)) rfl (za (dv 0) (za zg zk)) (zo (zo zX)))) (DE.dr (dv 1)))))) (ze (zZ 3 yO.nd (zr h_l_mix (hr.mono (by decide)) rfl (za (zr h_l_cell_at (hr.mono (by decide)) rfl (za (dv 0) (za zg zk)) (zo (zo zX))) (za zg zk)) (zo (zo zX)))) (ze (Y8 4 yO.nd (uS zk)) (ze (xZ PassesOwn.never rfl (xk rfl T.range_b (zx (DE.dr (dv 2)) zU)) (zQ 5 yO.nd) (zi (xZ PassesOwn.never rfl (Wj rfl T.range_b (zx (DE.dr (zV (DE.dr (dv 5)) (DE.dr zg))) (zx (DE.dr (dv 2)) zU))) (zQ 6 yO.nd) (ze (zZ 7 yO.nd (zr h_l_mix (hr.mono (by decide)) rfl (za (zr h_l_cell_at (hr.mono (by decide)) rfl (za (dv 0) (za (zV (DE.dr zg) (DE.dr (dv 5))) zk)) (zo (zo zX))) (za (zV (DE.dr (x4 (DE.dr zg) (DE.dr (dv 5)))) (DE.dr (dv 6))) zk)) (zo (zo zX)))) (ze (zZ 8 yO.nd (by refine yY ?a ?b; (case b => exact (DE.dr (uy (DE.dr (dv 7)) (DE.dr zg)))); (case a => refine DE.dr ?u; (case u => refine DN.de ?c; (case c => exact (by refine uS ?l0; (case l0 => refine za ?e0 ?l1; (case e0 => exact zg); (case l1 => refine za ?e1 ?l2; (case e1 => exact zg); (case l2 => refine za ?e2 ?l3; (case e2 => exact zg); (case l3 => refine za ?e3 ?l4; (case e3 => exact zg); (case l4 => refine za ?e4 ?l5; (case e4 => exact zg); (case l5 => refine za ?e5 ?l6; (case e5 => exact zg); (case l6 => refine za ?e6 ?l7; (case e6 => exact zg); (case l7 => refine za ?e7 ?l8; (case e7 => exact zg); (case l8 => exact zk))))))))))))))) (ze (yT (vD hr (DE.dr (uy (DE.dr (dv 3)) (DE.dr zg))) (DE.dr zg)) (ze (zZ 8 yO.nd (yY (DE.dr (DN.de (uS (za zg (za zg zk))))) (DE.dr (xD vH qT rfl T.int_b (by rfl) (zx (DE.dr (Cf hr (DE.dr (dv 6)) (DE.dr (zV (DE.dr (dv 5)) (DE.dr zg))))) zU))))) (zi (yT (DW.dt (kv (vD hr (DE.dr (dv 6)) (DE.dr (zV (DE.dr (dv 5)) (DE.dr zg)))) (kv (vD hr (DE.dr (uy (DE.dr (kz (DE.dr (dv 3)) (DE.dr zg))) (DE.dr zg))) (DE.dr zg)) (jX (vD hr (DE.dr (dv 6)) (DE.dr (Kh (DE.dr (dv 2)) (DE.dr zg)))))))) (zi (zZ 8 yO.nd (yY (DE.dr (DN.de (uS (za zg (za zg zk))))) (DE.dr (uy (DE.dr (kz (DE.dr (dv 3)) (DE.dr zg))) (DE.dr zg)))))) zL))) zL) (ze (yT (DW.dt (kv (vD hr (DE.dr (uy (DE.dr (dv 3)) (DE.dr zg))) (DE.dr zg)) (kv (Wh hr (DE.dr (dv 6)) (DE.dr (zV (DE.dr (dv 5)) (DE.dr zg)))) (jX (GR (DE.dr (uy (DE.dr (kz (DE.dr (dv 7)) (DE.dr zg))) (DE.dr zg))) (DE.dr zg)))))) (zi (zZ 8 yO.nd zg)) zL) (zi (yT (Wh hr (DE.dr (dv 8)) (DE.dr zg)) (zi (ZC 4 (xq (za (dv 5) (za (dv 6) (za (dv 8) zk)))))) zL))))))))) (ze (yT (vD hr (DE.dr (uy (DE.dr (kz (DE.dr (dv 3)) (DE.dr zg))) (DE.dr zg))) (DE.dr zg)) (zi (Y8 4 yO.nd (D7 (dvr 4) (DE.dr (vE (DE.dr zg)))))) zL) (Ke 4 (zi (zw (xq (za (dv 2) (za (dv 4) zk)))))))))))
noncomputable def kT : FS := (yh (xb 4 (zO xH (zb (zO zT (zb (vF 0) (zb (vF 2) zu))) (zb (cF (.int 60)) zu)))) (yh (ifS (blF (zc eqF (zc qQ (vF 4) (cF (.int 3))) (cF (.int 1)))) (xb 3 (zc qQ (zc qU (vF 4) (cF (.int 3))) (zc yV (vF 3) (cF (.int 1))))) nxF) (yh (xb 5 (tupF zu)) (yh (kF (YO (zb (vF 3) zu)) (zJ 6) (xb 5 (zc yV (vF 5) (tupF (zb (zc qQ (zO xH (zb (zO zT (zb (vF 0) (zb (zc yV (vF 2) (vF 6)) zu))) (zb (zc yV (zc wJ (cF (.int 7)) (vF 6)) (cF (.int 3))) zu))) (zc ixD (vF 1) (cF (.int 0)))) zu))))) (yv (vF 5))))))
noncomputable def vM : List D -> Option D := vJ 7 kT
theorem ub : FnScope ["_law_script", "_law_house_here", "_law_first", "_law_many", "_law_drawn", "_law_word_here", "_law_k"] ["_law_script", "_law_house_here", "_law_first", "_law_many"] (zd qx) := ⟨rfl, rfl, rfl, by decide +kernel, rfl, by decide +kernel, by decide +kernel⟩
theorem Jq (Fn : Fun K "_law_word" "_law_word" qx f fd) (T : Txt K mg) (h_l_cell_at : HasFn P w K mg base 1 "_law_cell_at" 2 zT) (h_l_mix : HasFn P w K mg base 1 "_law_mix" 2 xH) :
  FnOk P w K mg base CX0 2 f fd ["_law_script", "_law_house_here", "_law_first", "_law_many"] (spF K 4 vM) :=
 yb (k := 1) (m := 7) (F := kT) rfl rfl Fn ub fun cdv A outer s H E hr => (ze (zZ 4 ub.nd (zr h_l_mix (hr.mono (by decide)) rfl (za (zr h_l_cell_at (hr.mono (by decide)) rfl (za (dv 0) (za (dv 2) zk)) (zo (zo zX))) (za zg zk)) (zo (zo zX)))) (ze (yT (vD hr (DE.dr (uy (DE.dr (dv 4)) (DE.dr zg))) (DE.dr zg)) (zi (zZ 3 ub.nd (uy (DE.dr (kz (DE.dr (dv 4)) (DE.dr zg))) (DE.dr (zV (DE.dr (dv 3)) (DE.dr zg)))))) zL) (ze (zZ 5 ub.nd (xq zk)) (ze (xZ PassesOwn.never rfl (xk rfl T.range_b (zx (DE.dr (dv 3)) zU)) (zQ 6 ub.nd) (zi (zZ 5 ub.nd (zV (DE.dr (dv 5)) (DE.dr (xq (za (uy (DE.dr (zr h_l_mix (hr.mono (by decide)) rfl (za (zr h_l_cell_at (hr.mono (by decide)) rfl (za (dv 0) (za (zV (DE.dr (dv 2)) (DE.dr (dv 6))) zk)) (zo (zo zX))) (za (zV (DE.dr (x4 (DE.dr zg) (DE.dr (dv 6)))) (DE.dr zg)) zk)) (zo (zo zX)))) (DE.dr (yY (DE.dr (dv 1)) (DE.dr zg)))) zk))))))) (zi (zw (dv 5)))))))
noncomputable def Xl : FS := (yv (tupF (zb (zc yV (zc ixD (vF 0) (cF (.int 0))) (zc ixD (vF 1) (cF (.int 0)))) (zb (zc yV (zc ixD (vF 0) (cF (.int 1))) (zc ixD (vF 1) (cF (.int 1)))) zu))))
noncomputable def w8 : List D -> Option D := vJ 2 Xl
theorem QU : FnScope ["_law_x", "_law_y"] ["_law_x", "_law_y"] (zd qA) := ⟨rfl, rfl, rfl, by decide +kernel, rfl, by decide +kernel, by decide +kernel⟩
theorem Jt (Fn : Fun K "_law_plus" "_law_plus" qA f fd) (T : Txt K mg)  :
  FnOk P w K mg base CX0 1 f fd ["_law_x", "_law_y"] (spF K 2 w8) :=
 yb (k := 0) (m := 2) (F := Xl) rfl rfl Fn QU fun cdv A outer s H E hr => (zi (zw (xq (za (zV (DE.dr (yY (DE.dr (dv 0)) (DE.dr zg))) (DE.dr (yY (DE.dr (dv 1)) (DE.dr zg)))) (za (zV (DE.dr (yY (DE.dr (dv 0)) (DE.dr zg))) (DE.dr (yY (DE.dr (dv 1)) (DE.dr zg)))) zk)))))
noncomputable def ZP : FS := (yv (tupF (zb (zc yV (zc wJ (zc ixD (vF 0) (cF (.int 0))) (zc ixD (vF 1) (cF (.int 0)))) (zc wJ (zc ixD (vF 0) (cF (.int 1))) (zc ixD (vF 1) (cF (.int 1))))) (zb (zc yV (zc yV (zc wJ (zc ixD (vF 0) (cF (.int 0))) (zc ixD (vF 1) (cF (.int 1)))) (zc wJ (zc ixD (vF 0) (cF (.int 1))) (zc ixD (vF 1) (cF (.int 0))))) (zc wJ (zc ixD (vF 0) (cF (.int 1))) (zc ixD (vF 1) (cF (.int 1))))) zu))))
noncomputable def vB : List D -> Option D := vJ 2 ZP
theorem UJ : FnScope ["_law_x", "_law_y"] ["_law_x", "_law_y"] (zd uh) := ⟨rfl, rfl, rfl, by decide +kernel, rfl, by decide +kernel, by decide +kernel⟩
theorem UW (Fn : Fun K "_law_times" "_law_times" uh f fd) (T : Txt K mg)  :
  FnOk P w K mg base CX0 1 f fd ["_law_x", "_law_y"] (spF K 2 vB) :=
 yb (k := 0) (m := 2) (F := ZP) rfl rfl Fn UJ fun cdv A outer s H E hr => (zi (zw (xq (za (zV (DE.dr (x4 (DE.dr (yY (DE.dr (dv 0)) (DE.dr zg))) (DE.dr (yY (DE.dr (dv 1)) (DE.dr zg))))) (DE.dr (x4 (DE.dr (yY (DE.dr (dv 0)) (DE.dr zg))) (DE.dr (yY (DE.dr (dv 1)) (DE.dr zg)))))) (za (zV (DE.dr (zV (DE.dr (x4 (DE.dr (yY (DE.dr (dv 0)) (DE.dr zg))) (DE.dr (yY (DE.dr (dv 1)) (DE.dr zg))))) (DE.dr (x4 (DE.dr (yY (DE.dr (dv 0)) (DE.dr zg))) (DE.dr (yY (DE.dr (dv 1)) (DE.dr zg))))))) (DE.dr (x4 (DE.dr (yY (DE.dr (dv 0)) (DE.dr zg))) (DE.dr (yY (DE.dr (dv 1)) (DE.dr zg)))))) zk)))))
noncomputable def wH : FS := (yh (xb 1 (zc yV (zc wJ (cF (.int 2)) (zc ixD (vF 0) (cF (.int 0)))) (zc ixD (vF 0) (cF (.int 1))))) (yh (xb 2 (zc ixD (vF 0) (cF (.int 1)))) (yh (ifS (Vx (blF (zc geD (vF 1) (cF (.int 0)))) (blF (zc geD (vF 2) (cF (.int 0))))) (yv (zO Vj (zb (zc gtD (zc yV (vF 1) (vF 2)) (cF (.int 0))) zu))) nxF) (yh (ifS (Vx (blF (zc leD (vF 1) (cF (.int 0)))) (blF (zc leD (vF 2) (cF (.int 0))))) (yv (y0 qJ (cF (.int 1)))) nxF) (yh (ifS (blF (zc gtD (vF 1) (cF (.int 0)))) (yv (zc ixD (yI (Yi (zb (y0 qJ (cF (.int 1))) (zb (cF (.int 1)) zu)))) (zO Vj (zb (zc gtD (zc wJ (vF 1) (vF 1)) (zc wJ (zc wJ (cF (.int 5)) (vF 2)) (vF 2))) zu)))) nxF) (yv (zc ixD (yI (Yi (zb (y0 qJ (cF (.int 1))) (zb (cF (.int 1)) zu)))) (zO Vj (zb (zc gtD (zc wJ (zc wJ (cF (.int 5)) (vF 2)) (vF 2)) (zc wJ (vF 1) (vF 1))) zu)))))))))
noncomputable def y7 : List D -> Option D := vJ 3 wH
theorem Zd : FnScope ["_law_x", "_law_one", "_law_two"] ["_law_x"] (zd qy) := ⟨rfl, rfl, rfl, by decide +kernel, rfl, by decide +kernel, by decide +kernel⟩
theorem Jr (Fn : Fun K "_law_sign" "_law_sign" qy f fd) (T : Txt K mg)  :
  FnOk P w K mg base CX0 1 f fd ["_law_x"] (spF K 1 y7) :=
 yb (k := 0) (m := 3) (F := wH) rfl rfl Fn Zd fun cdv A outer s H E hr => (ze (zZ 1 Zd.nd (zV (DE.dr (x4 (DE.dr zg) (DE.dr (yY (DE.dr (dv 0)) (DE.dr zg))))) (DE.dr (yY (DE.dr (dv 0)) (DE.dr zg))))) (ze (zZ 2 Zd.nd (yY (DE.dr (dv 0)) (DE.dr zg))) (ze (yT (DW.dt (kv (Kd (DE.dr (dv 1)) (DE.dr zg)) (jX (Kd (DE.dr (dv 2)) (DE.dr zg))))) (zi (zw (xD vH qT rfl T.int_b (by rfl) (zx (DE.dr (MF (DE.dr (zV (DE.dr (dv 1)) (DE.dr (dv 2)))) (DE.dr zg))) zU)))) zL) (ze (yT (DW.dt (kv (D6 (DE.dr (dv 1)) (DE.dr zg)) (jX (D6 (DE.dr (dv 2)) (DE.dr zg))))) (zi (zw (vE (DE.dr zg)))) zL) (ze (yT (GR (DE.dr (dv 1)) (DE.dr zg)) (zi (zw (yY (DE.dr (DN.de (uS (za (vE (DE.dr zg)) (za zg zk))))) (DE.dr (xD vH qT rfl T.int_b (by rfl) (zx (DE.dr (MF (DE.dr (x4 (DE.dr (dv 1)) (DE.dr (dv 1)))) (DE.dr (x4 (DE.dr (x4 (DE.dr zg) (DE.dr (dv 2)))) (DE.dr (dv 2)))))) zU)))))) zL) (zi (zw (yY (DE.dr (DN.de (uS (za (vE (DE.dr zg)) (za zg zk))))) (DE.dr (xD vH qT rfl T.int_b (by rfl) (zx (DE.dr (MF (DE.dr (x4 (DE.dr (x4 (DE.dr zg) (DE.dr (dv 2)))) (DE.dr (dv 2)))) (DE.dr (x4 (DE.dr (dv 1)) (DE.dr (dv 1)))))) zU)))))))))))
noncomputable def kU : FS := (yh (ifS (blF (zc eqF (vF 1) (vF 2))) (yv (tupF (zb (cF (.int 2)) (zb (cF (.int 0)) zu)))) nxF) (yh (kF (yc (zc ixD (vF 0) (cF (.int 1)))) (ZT 3 (yU (zJ 3) (yU (zJ 4) (yU (zJ 5) Yf)))) (ifS (blF (zc eqF (tupF (zb (vF 3) (zb (vF 4) zu))) (tupF (zb (zO Hu (zb (vF 1) (zb (vF 2) zu))) (zb (zO Hv (zb (vF 1) (zb (vF 2) zu))) zu))))) (yh (ifS (blF (zc eqF (vF 5) (cF (.int 5)))) (yv (tupF (zb (cF (.int 0)) (zb (y0 qJ (cF (.int 1))) zu)))) nxF) (yh (ifS (blF (zc eqF (vF 5) (cF (.int 0)))) (yv (tupF (zb (y0 qJ (cF (.int 2))) (zb (cF (.int 0)) zu)))) nxF) (yv (tupF (zb (ifF (blF (zc ltD (vF 1) (vF 2))) (zc ixD (yI (Yi (zb (y0 qJ (cF (.int 1))) (zb (y0 qJ (cF (.int 2))) (zb (cF (.int 0)) (zb (y0 qJ (cF (.int 3))) zu)))))) (zc Ky (vF 5) (cF (.int 3)))) (y0 qJ (cF (.int 1)))) (zb (cF (.int 0)) zu)))))) nxF)) (yv (tupF (zb (cF (.int 0)) (zb (cF (.int 0)) zu))))))
noncomputable def vN : List D -> Option D := vJ 6 kU
theorem jh : FnScope ["_law_house_here", "_law_i", "_law_j", "_law_one", "_law_other", "_law_m_here"] ["_law_house_here", "_law_i", "_law_j"] (zd qz) := ⟨rfl, rfl, rfl, by decide +kernel, rfl, by decide +kernel, by decide +kernel⟩
theorem Js (Fn : Fun K "_law_pull" "_law_pull" qz f fd) (T : Txt K mg)  :
  FnOk P w K mg base CX0 1 f fd ["_law_house_here", "_law_i", "_law_j"] (spF K 3 vN) :=
 yb (k := 0) (m := 6) (F := kU) rfl rfl Fn jh fun cdv A outer s H E hr => (ze (yT (vD hr (DE.dr (dv 1)) (DE.dr (dv 2))) (zi (zw (xq (za zg (za zg zk))))) zL) (ze (xZ PassesOwn.never rfl (qg (yY (DE.dr (dv 0)) (DE.dr zg))) (ky rfl (yz (zQ 3 jh.nd) (yz (zQ 4 jh.nd) (yz (zQ 5 jh.nd) qh)))) (zi (yT (vD hr (DE.dr (xq (za (dv 3) (za (dv 4) zk)))) (DE.dr (xq (za (wu (ZG rfl) Vm rfl T.min_b (by rfl) (zx (DE.dr (dv 1)) (zx (DE.dr (dv 2)) zU))) (za (wu (ZH rfl) Vn rfl T.max_b (by rfl) (zx (DE.dr (dv 1)) (zx (DE.dr (dv 2)) zU))) zk))))) (ze (yT (vD hr (DE.dr (dv 5)) (DE.dr zg)) (zi (zw (xq (za zg (za (vE (DE.dr zg)) zk))))) zL) (ze (yT (vD hr (DE.dr (dv 5)) (DE.dr zg)) (zi (zw (xq (za (vE (DE.dr zg)) (za zg zk))))) zL) (zi (zw (xq (za (Vs (GP (DE.dr (dv 1)) (DE.dr (dv 2))) (yY (DE.dr (DN.de (uS (za (vE (DE.dr zg)) (za (vE (DE.dr zg)) (za zg (za (vE (DE.dr zg)) zk))))))) (DE.dr (Kh (DE.dr (dv 5)) (DE.dr zg)))) (vE (DE.dr zg))) (za zg zk))))))) zL))) (zi (zw (xq (za zg (za zg zk)))))))
noncomputable def VD : FS := (yh (kF (yc (C1 (vF 1) (y0 qJ (cF (.int 1))))) (zJ 3) (yh (xb 4 (tupF (zb (cF (.int 0)) (zb (cF (.int 0)) zu)))) (yh (kF (YO (zb (zc ixD (vF 0) (cF (.int 0))) zu)) (zJ 5) (xb 4 (zO w8 (zb (vF 4) (zb (zO vB (zb (zO vN (zb (vF 0) (zb (vF 3) (zb (vF 5) zu)))) (zb (zc ixD (vF 2) (vF 5)) zu))) zu))))) (xb 2 (zc yV (zc yV (ym (vF 2) noP (exP (vF 3))) (tupF (zb (zO w8 (zb (zc ixD (vF 2) (vF 3)) (zb (tupF (zb (y0 qJ (zc ixD (vF 4) (cF (.int 0)))) (zb (y0 qJ (zc ixD (vF 4) (cF (.int 1)))) zu))) zu))) zu))) (ym (vF 2) (exP (zc yV (vF 3) (cF (.int 1)))) noP)))))) (yv (vF 2)))
noncomputable def xI : List D -> Option D := vJ 6 VD
theorem qu : FnScope ["_law_house_here", "_law_word_here", "_law_row", "_law_i", "_law_taken", "_law_j"] ["_law_house_here", "_law_word_here", "_law_row"] (zd jM) := ⟨rfl, rfl, rfl, by decide +kernel, rfl, by decide +kernel, by decide +kernel⟩
theorem Gk (Fn : Fun K "_law_led" "_law_led" jM f fd) (T : Txt K mg) (h_l_plus : HasFn P w K mg base 1 "_law_plus" 2 w8) (h_l_pull : HasFn P w K mg base 1 "_law_pull" 3 vN) (h_l_times : HasFn P w K mg base 1 "_law_times" 2 vB) :
  FnOk P w K mg base CX0 2 f fd ["_law_house_here", "_law_word_here", "_law_row"] (spF K 3 xI) :=
 yb (k := 1) (m := 6) (F := VD) rfl rfl Fn qu fun cdv A outer s H E hr => (ze (xZ PassesOwn.never rfl (qg (Fb (DE.dr (dv 1)) (DE.dr (vE (DE.dr zg))))) (zQ 3 qu.nd) (ze (zZ 4 qu.nd (xq (za zg (za zg zk)))) (ze (xZ PassesOwn.never rfl (xk rfl T.range_b (zx (DE.dr (yY (DE.dr (dv 0)) (DE.dr zg))) zU)) (zQ 5 qu.nd) (zi (zZ 4 qu.nd (zr h_l_plus (hr.mono (by decide)) rfl (za (dv 4) (za (zr h_l_times (hr.mono (by decide)) rfl (za (zr h_l_pull (hr.mono (by decide)) rfl (za (dv 0) (za (dv 3) (za (dv 5) zk))) (zo (zo (zo zX)))) (za (yY (DE.dr (dv 2)) (DE.dr (dv 5))) zk)) (zo (zo zX))) zk)) (zo (zo zX)))))) (zi (zZ 2 qu.nd (zV (DE.dr (zV (DE.dr (yN (DE.dr (dv 2)) uU (wM (DE.dr (dv 3))))) (DE.dr (xq (za (zr h_l_plus (hr.mono (by decide)) rfl (za (yY (DE.dr (dv 2)) (DE.dr (dv 3))) (za (xq (za (vE (DE.dr (yY (DE.dr (dv 4)) (DE.dr zg)))) (za (vE (DE.dr (yY (DE.dr (dv 4)) (DE.dr zg)))) zk))) zk)) (zo (zo zX))) zk))))) (DE.dr (yN (DE.dr (dv 2)) (wM (DE.dr (zV (DE.dr (dv 3)) (DE.dr zg)))) uU)))))))) (zi (zw (dv 2))))
noncomputable def j9 : FS := (yv (zO je (zb (yI (qi 1 [1] (YO (zb (zc ixD (vF 0) (cF (.int 0))) zu)) (zJ 0) ttF (tupF (zb (zO Vj (zb (zc eqF (vF 1) (vF 0)) zu)) (zb (cF (.int 0)) zu))))) zu)))
noncomputable def yt : List D -> Option D := vJ 2 j9
theorem WR : FnScope ["_law_house_here", "_law_i"] ["_law_house_here", "_law_i"] (zd vg) := ⟨rfl, rfl, rfl, by decide +kernel, rfl, by decide +kernel, by decide +kernel⟩
theorem W6 (Fn : Fun K "_law_simple" "_law_simple" vg f fd) (T : Txt K mg)  :
  FnOk P w K mg base CX0 1 f fd ["_law_house_here", "_law_i"] (spF K 2 yt) :=
 yb (k := 0) (m := 2) (F := j9) rfl rfl Fn WR fun cdv A outer s H E hr => (zi (zw (xD x5 qe rfl T.tuple_b (by rfl) (zx (DE.dr (DN.de (qW (own := ["_law_j"]) (frees := ["_law_i"]) (caps := [1]) rfl (.of (by kernel_rfl)) rfl wO (xk rfl T.range_b (zx (DE.dr (yY (DE.dr (dv 0)) (DE.dr zg))) zU)) (fun cl C s H fp => ⟨(zQ 0 (show List.Nodup (["_law_j", "_law_i"] : List Str) from by decide +kernel)), qO, (xq (za (xD vH qT rfl T.int_b (by rfl) (zx (DE.dr (Cf hr (DE.dr (dv 1)) (DE.dr (dv 0)))) zU)) (za zg zk)))⟩)))) zU))))
noncomputable def ka : FS := (yv (yI (qi 1 [0, 1] (YO (zb (zc ixD (vF 0) (cF (.int 0))) zu)) (zJ 0) ttF (zO xI (zb (vF 1) (zb (vF 2) (zb (zO yt (zb (vF 1) (zb (vF 0) zu))) zu)))))))
noncomputable def wo : List D -> Option D := vJ 2 ka
theorem WT : FnScope ["_law_house_here", "_law_word_here"] ["_law_house_here", "_law_word_here"] (zd vi) := ⟨rfl, rfl, rfl, by decide +kernel, rfl, by decide +kernel, by decide +kernel⟩
theorem W7 (Fn : Fun K "_law_images" "_law_images" vi f fd) (T : Txt K mg) (h_l_led : HasFn P w K mg base 2 "_law_led" 3 xI) (h_l_simple : HasFn P w K mg base 1 "_law_simple" 2 yt) :
  FnOk P w K mg base CX0 3 f fd ["_law_house_here", "_law_word_here"] (spF K 2 wo) :=
 yb (k := 2) (m := 2) (F := ka) rfl rfl Fn WT fun cdv A outer s H E hr => (zi (zw (DN.de (qW (own := ["_law_i"]) (frees := ["_law_house_here", "_law_word_here"]) (caps := [0, 1]) rfl (.of (by kernel_rfl)) rfl wO (xk rfl T.range_b (zx (DE.dr (yY (DE.dr (dv 0)) (DE.dr zg))) zU)) (fun cl C s H fp => ⟨(zQ 0 (show List.Nodup (["_law_i", "_law_house_here", "_law_word_here"] : List Str) from by decide +kernel)), qO, (zr h_l_led (hr.mono (by decide)) rfl (za (dv 1) (za (dv 2) (za (zr h_l_simple (hr.mono (by decide)) rfl (za (dv 1) (za (dv 0) zk)) (zo (zo zX))) zk))) (zo (zo (zo zX))))⟩)))))
noncomputable def ZR : FS := (yh (xb 1 (yI (qi 1 [] (yc (vF 0)) (zJ 0) ttF (zO y7 (zb (vF 0) zu))))) (yv (HH (zc (inD false) (y0 qJ (cF (.int 1))) (vF 1)) (zc (inD true) (cF (.int 1)) (vF 1)))))
noncomputable def xy : List D -> Option D := vJ 2 ZR
theorem Z6 : FnScope ["_law_row", "_law_signs"] ["_law_row"] (zd uk) := ⟨rfl, rfl, rfl, by decide +kernel, rfl, by decide +kernel, by decide +kernel⟩
theorem UZ (Fn : Fun K "_law_below" "_law_below" uk f fd) (T : Txt K mg) (h_l_sign : HasFn P w K mg base 1 "_law_sign" 1 y7) :
  FnOk P w K mg base CX0 2 f fd ["_law_row"] (spF K 1 xy) :=
 yb (k := 1) (m := 2) (F := ZR) rfl rfl Fn Z6 fun cdv A outer s H E hr => (ze (jY 1 Z6.nd (own := ["_law_number"]) (frees := []) (caps := []) rfl (.of (by kernel_rfl)) rfl wO (qg (dv 0)) (fun cl C s H fp => ⟨(zQ 0 (show List.Nodup (["_law_number"] : List Str) from by decide +kernel)), qO, (zr h_l_sign (hr.mono (by decide)) rfl (za (dv 0) zk) (zo zX))⟩)) (zi (zw (Qh (ME hr (DE.dr (vE (DE.dr zg))) (DE.dr (dv 1))) (Ki (Vr hr (DE.dr zg) (DE.dr (dv 1))))))))
noncomputable def qr : FS := (yh (kF (qd (vF 1)) (ZT 2 (yU (zJ 2) (yU (zJ 3) Yf))) (ifS (blF (zO xy (zb (zO xI (zb (vF 0) (zb (ym (vF 1) noP (exP (vF 2))) (zb (zO yt (zb (vF 0) (zb (vF 3) zu))) zu)))) zu))) (yv (cF (.bl false))) nxF)) (yv (cF (.bl true))))
noncomputable def xR : List D -> Option D := vJ 4 qr
theorem uC : FnScope ["_law_house_here", "_law_word_here", "_law_at", "_law_i"] ["_law_house_here", "_law_word_here"] (zd xM) := ⟨rfl, rfl, rfl, by decide +kernel, rfl, by decide +kernel, by decide +kernel⟩
theorem YW (Fn : Fun K "_law_is_short" "_law_is_short" xM f fd) (T : Txt K mg) (h_l_below : HasFn P w K mg base 2 "_law_below" 1 xy) (h_l_led : HasFn P w K mg base 2 "_law_led" 3 xI) (h_l_simple : HasFn P w K mg base 1 "_law_simple" 2 yt) :
  FnOk P w K mg base CX0 3 f fd ["_law_house_here", "_law_word_here"] (spF K 2 xR) :=
 yb (k := 2) (m := 4) (F := qr) rfl rfl Fn uC fun cdv A outer s H E hr => (ze (xZ PassesOwn.never rfl (ZD rfl T.enumerate_b (dv 1)) (ky rfl (yz (zQ 2 uC.nd) (yz (zQ 3 uC.nd) qh))) (zi (yT (jv (DE.dr (zr h_l_below (hr.mono (by decide)) rfl (za (zr h_l_led (hr.mono (by decide)) rfl (za (dv 0) (za (yN (DE.dr (dv 1)) uU (wM (DE.dr (dv 2)))) (za (zr h_l_simple (hr.mono (by decide)) rfl (za (dv 0) (za (dv 3) zk)) (zo (zo zX))) zk))) (zo (zo (zo zX)))) zk) (zo zX)))) (zi (zw Fz)) zL))) (zi (zw Fz)))
noncomputable def Cu : FS := (yh (kF (yc (zc ixD (vF 0) (cF (.int 1)))) (ZT 3 (yU (zJ 3) (yU (zJ 4) (yU (zJ 5) Yf)))) (ifS (blF (zc eqF (tupF (zb (vF 3) (zb (vF 4) zu))) (tupF (zb (zO Hu (zb (vF 1) (zb (vF 2) zu))) (zb (zO Hv (zb (vF 1) (zb (vF 2) zu))) zu))))) (yv (vF 5)) nxF)) (yv (cF (.int 2))))
noncomputable def X9 : List D -> Option D := vJ 6 Cu
theorem VM : FnScope ["_law_house_here", "_law_i", "_law_j", "_law_one", "_law_other", "_law_m_here"] ["_law_house_here", "_law_i", "_law_j"] (zd UM) := ⟨rfl, rfl, rfl, by decide +kernel, rfl, by decide +kernel, by decide +kernel⟩
theorem Du (Fn : Fun K "_law_m" "_law_m" UM f fd) (T : Txt K mg)  :
  FnOk P w K mg base CX0 1 f fd ["_law_house_here", "_law_i", "_law_j"] (spF K 3 X9) :=
 yb (k := 0) (m := 6) (F := Cu) rfl rfl Fn VM fun cdv A outer s H E hr => (ze (xZ PassesOwn.never rfl (qg (yY (DE.dr (dv 0)) (DE.dr zg))) (ky rfl (yz (zQ 3 VM.nd) (yz (zQ 4 VM.nd) (yz (zQ 5 VM.nd) qh)))) (zi (yT (vD hr (DE.dr (xq (za (dv 3) (za (dv 4) zk)))) (DE.dr (xq (za (wu (ZG rfl) Vm rfl T.min_b (by rfl) (zx (DE.dr (dv 1)) (zx (DE.dr (dv 2)) zU))) (za (wu (ZH rfl) Vn rfl T.max_b (by rfl) (zx (DE.dr (dv 1)) (zx (DE.dr (dv 2)) zU))) zk))))) (zi (zw (dv 5))) zL))) (zi (zw zg)))
noncomputable def xm : FS := (yh (xb 3 (zc ixD (vF 2) (cF (.int 1)))) (yh (ifS (orT (blF (zc ltD (vF 3) (cF (.int 0)))) (blF (zc geD (vF 3) (zO WG (zb (vF 1) zu))))) (yv (cF .non)) nxF) (yh (ifS (blF (zc eqF (zc ixD (vF 2) (cF (.int 0))) (cF (.str "drop")))) (yh (ifS (blF (zc neF (ym (vF 1) (exP (vF 3)) (exP (zc yV (vF 3) (cF (.int 1))))) (ym (vF 1) (exP (zc yV (vF 3) (cF (.int 1)))) (exP (zc yV (vF 3) (cF (.int 2))))))) (yv (cF .non)) nxF) (yv (zc yV (ym (vF 1) noP (exP (vF 3))) (ym (vF 1) (exP (zc yV (vF 3) (cF (.int 2)))) noP)))) nxF) (yh (xb 4 (zc ixD (vF 2) (cF (.int 2)))) (yh (xb 5 (zc ixD (vF 2) (cF (.int 3)))) (yh (ifS (orT (blF (zc eqF (vF 4) (vF 5))) (orT (WE (blF (ql leD ltD (cF (.int 0)) (vF 4) (zc ixD (vF 0) (cF (.int 0)))))) (orT (WE (blF (ql leD ltD (cF (.int 0)) (vF 5) (zc ixD (vF 0) (cF (.int 0)))))) (blF (zc eqF (zO X9 (zb (vF 0) (zb (vF 4) (zb (vF 5) zu)))) (cF (.int 0))))))) (yv (cF .non)) nxF) (yh (xb 6 (zO X9 (zb (vF 0) (zb (vF 4) (zb (vF 5) zu))))) (yh (ifS (blF (zc neF (ym (vF 1) (exP (vF 3)) (exP (zc yV (vF 3) (vF 6)))) (ym (zc Gn (tupF (zb (vF 4) (zb (vF 5) zu))) (vF 6)) noP (exP (vF 6))))) (yv (cF .non)) nxF) (yv (zc yV (zc yV (ym (vF 1) noP (exP (vF 3))) (ym (zc Gn (tupF (zb (vF 5) (zb (vF 4) zu))) (vF 6)) noP (exP (vF 6)))) (ym (vF 1) (exP (zc yV (vF 3) (vF 6))) noP)))))))))))
noncomputable def yE : List D -> Option D := vJ 7 xm
theorem uc : FnScope ["_law_house_here", "_law_word_here", "_law_move", "_law_at", "_law_i", "_law_j", "_law_many"] ["_law_house_here", "_law_word_here", "_law_move"] (zd ui) := ⟨rfl, rfl, rfl, by decide +kernel, rfl, by decide +kernel, by decide +kernel⟩
theorem UX (Fn : Fun K "_law_moved" "_law_moved" ui f fd) (T : Txt K mg) (h_l_m : HasFn P w K mg base 1 "_law_m" 3 X9) :
  FnOk P w K mg base CX0 2 f fd ["_law_house_here", "_law_word_here", "_law_move"] (spF K 3 yE) :=
 yb (k := 1) (m := 7) (F := xm) rfl rfl Fn uc fun cdv A outer s H E hr => (ze (zZ 3 uc.nd (yY (DE.dr (dv 2)) (DE.dr zg))) (ze (yT (DW.dt (ZY (GP (DE.dr (dv 3)) (DE.dr zg)) (Yn (Kd (DE.dr (dv 3)) (DE.dr (wu vG jW rfl T.len_b (by rfl) (zx (DE.dr (dv 1)) zU))))))) (zi (zw ux)) zL) (ze (yT (vD hr (DE.dr (yY (DE.dr (dv 2)) (DE.dr zg))) (DE.dr GW)) (ze (yT (Wh hr (DE.dr (yN (DE.dr (dv 1)) (wM (DE.dr (dv 3))) (wM (DE.dr (zV (DE.dr (dv 3)) (DE.dr zg)))))) (DE.dr (yN (DE.dr (dv 1)) (wM (DE.dr (zV (DE.dr (dv 3)) (DE.dr zg)))) (wM (DE.dr (zV (DE.dr (dv 3)) (DE.dr zg))))))) (zi (zw ux)) zL) (zi (zw (zV (DE.dr (yN (DE.dr (dv 1)) uU (wM (DE.dr (dv 3))))) (DE.dr (yN (DE.dr (dv 1)) (wM (DE.dr (zV (DE.dr (dv 3)) (DE.dr zg)))) uU)))))) zL) (ze (zZ 4 uc.nd (yY (DE.dr (dv 2)) (DE.dr zg))) (ze (zZ 5 uc.nd (yY (DE.dr (dv 2)) (DE.dr zg))) (ze (yT (DW.dt (ZY (vD hr (DE.dr (dv 4)) (DE.dr (dv 5))) (ZY (qN (kO UR UQ Ye Yd (DE.dr zg) (DE.dr (dv 4)) (DE.dr (yY (DE.dr (dv 0)) (DE.dr zg))))) (ZY (qN (kO UR UQ Ye Yd (DE.dr zg) (DE.dr (dv 5)) (DE.dr (yY (DE.dr (dv 0)) (DE.dr zg))))) (Yn (vD hr (DE.dr (zr h_l_m (hr.mono (by decide)) rfl (za (dv 0) (za (dv 4) (za (dv 5) zk))) (zo (zo (zo zX))))) (DE.dr zg))))))) (zi (zw ux)) zL) (ze (zZ 6 uc.nd (zr h_l_m (hr.mono (by decide)) rfl (za (dv 0) (za (dv 4) (za (dv 5) zk))) (zo (zo (zo zX))))) (ze (yT (Wh hr (DE.dr (yN (DE.dr (dv 1)) (wM (DE.dr (dv 3))) (wM (DE.dr (zV (DE.dr (dv 3)) (DE.dr (dv 6))))))) (DE.dr (yN (DE.dr (HD (DE.dr (xq (za (dv 4) (za (dv 5) zk)))) (DE.dr (dv 6)))) uU (wM (DE.dr (dv 6)))))) (zi (zw ux)) zL) (zi (zw (zV (DE.dr (zV (DE.dr (yN (DE.dr (dv 1)) uU (wM (DE.dr (dv 3))))) (DE.dr (yN (DE.dr (HD (DE.dr (xq (za (dv 5) (za (dv 4) zk)))) (DE.dr (dv 6)))) uU (wM (DE.dr (dv 6))))))) (DE.dr (yN (DE.dr (dv 1)) (wM (DE.dr (zV (DE.dr (dv 3)) (DE.dr (dv 6))))) uU)))))))))))))
noncomputable def j8 : FS := (yh (ifS (WE (blF (y0 (Hy "list") (vF 2)))) (yv (cF .non)) nxF) (yh (kF (yc (vF 2)) (zJ 3) (yh (ifS (orT (WE (blF (y0 (Hy "tuple") (vF 3)))) (blF (zc neF (zO WG (zb (vF 3) zu)) (zc yV (cF (.int 2)) (zc wJ (cF (.int 2)) (zO Vj (zb (zc eqF (ym (vF 3) noP (exP (cF (.int 1)))) (tupF (zb (cF (.str "turn")) zu))) zu))))))) (yv (cF .non)) nxF) (yh (ifS (blF (zc (inD true) (zc ixD (vF 3) (cF (.int 0))) (yI (Yi (zb (cF (.str "drop")) (zb (cF (.str "turn")) zu)))))) (yv (cF .non)) nxF) (yh (kF (yc (ym (vF 3) (exP (cF (.int 1))) noP)) (zJ 4) (ifS (WE (blF (zO vA (zb (vF 4) zu)))) (yv (cF .non)) nxF)) (yh (xb 1 (zO yE (zb (vF 0) (zb (vF 1) (zb (vF 3) zu))))) (ifS (blF (zc (isD false) (vF 1) (cF .non))) (yv (cF .non)) nxF)))))) (yv (vF 1))))
noncomputable def wm : List D -> Option D := vJ 5 j8
theorem uB : FnScope ["_law_house_here", "_law_word_here", "_law_paper", "_law_move", "_law_number"] ["_law_house_here", "_law_word_here", "_law_paper"] (zd vf) := ⟨rfl, rfl, rfl, by decide +kernel, rfl, by decide +kernel, by decide +kernel⟩
theorem W5 (Fn : Fun K "_law_walked" "_law_walked" vf f fd) (T : Txt K mg) (h_l_moved : HasFn P w K mg base 2 "_law_moved" 3 yE) (h_l_whole : HasFn P w K mg base 1 "_law_whole" 1 vA) :
  FnOk P w K mg base CX0 3 f fd ["_law_house_here", "_law_word_here", "_law_paper"] (spF K 3 wm) :=
 yb (k := 2) (m := 5) (F := j8) rfl rfl Fn uB fun cdv A outer s H E hr => (ze (yT (qN (jv (DE.dr (Ul HL (DE.dr (dv 2)) rfl T.isinstance_b rfl T.list_b)))) (zi (zw ux)) zL) (ze (xZ PassesOwn.never rfl (qg (dv 2)) (zQ 3 uB.nd) (ze (yT (DW.dt (ZY (qN (jv (DE.dr (Ul KD (DE.dr (dv 3)) rfl T.isinstance_b rfl T.tuple_b)))) (Yn (Wh hr (DE.dr (wu vG jW rfl T.len_b (by rfl) (zx (DE.dr (dv 3)) zU))) (DE.dr (zV (DE.dr zg) (DE.dr (x4 (DE.dr zg) (DE.dr (xD vH qT rfl T.int_b (by rfl) (zx (DE.dr (Cf hr (DE.dr (yN (DE.dr (dv 3)) uU (wM (DE.dr zg)))) (DE.dr (xq (za GW zk))))) zU))))))))))) (zi (zw ux)) zL) (ze (yT (GO hr (DE.dr (yY (DE.dr (dv 3)) (DE.dr zg))) (DE.dr (DN.de (uS (za GW (za GW zk)))))) (zi (zw ux)) zL) (ze (xZ PassesOwn.never rfl (qg (yN (DE.dr (dv 3)) (wM (DE.dr zg)) uU)) (zQ 4 uB.nd) (zi (yT (qN (jv (DE.dr (zr h_l_whole (hr.mono (by decide)) rfl (za (dv 4) zk) (zo zX))))) (zi (zw ux)) zL))) (ze (zZ 1 uB.nd (zr h_l_moved (hr.mono (by decide)) rfl (za (dv 0) (za (dv 1) (za (dv 3) zk))) (zo (zo (zo zX))))) (zi (yT (Ca (DE.dr (dv 1)) (DE.dr ux)) (zi (zw ux)) zL))))))) (zi (zw (dv 1)))))
noncomputable def Ct : FS := (yh (xb 1 (zc eqF (zc qQ (zO zT (zb (vF 0) (zb (cF (.int 4)) zu))) (cF (.int 4))) (cF (.int 2)))) (yh (xb 2 (zO vC (zb (vF 0) (zb (zc ixD (yI (Yi (zb (cF (.int 4)) (zb (cF (.int 6)) zu)))) (zO Vj (zb (vF 1) zu))) zu)))) (yh (xb 3 (zO vM (zb (vF 0) (zb (vF 2) (zb (cF (.int 7)) (zb (zc ixD (yI (Yi (zb (cF (.int 10)) (zb (cF (.int 8)) (zb (cF (.int 7)) (zb (cF (.int 4)) zu)))))) (zc qQ (zO zT (zb (vF 0) (zb (cF (.int 4)) zu))) (cF (.int 4)))) zu)))))) (yh (xb 4 (tupF (zb (zc ixD (vF 2) (cF (.int 0))) (zb (yI (BP (zb (zc ixD (vF 2) (cF (.int 1))) zu))) zu)))) (yh (xb 5 (zO uv (zb (vF 4) (zb (vF 3) zu)))) (yh (xb 6 (zO wm (zb (vF 2) (zb (vF 3) (zb (vF 5) zu))))) (yh (ifS (orT (blF (zc (isD false) (vF 6) (cF .non))) (orT (WE (blF (zO xR (zb (vF 2) (zb (vF 6) zu))))) (blF (zc neF (zO wo (zb (vF 2) (zb (vF 6) zu))) (zO wo (zb (vF 2) (zb (vF 3) zu))))))) (yv (cF (.bl false))) nxF) (yh (kF (YO (zb (zO WG (zb (vF 6) zu)) zu)) (zJ 7) (kF (YO (zb (zc ixD (vF 6) (vF 7)) zu)) (zJ 8) (ifS (blF (zO xy (zb (zO xI (zb (vF 2) (zb (C1 (ym (vF 6) (exP (vF 7)) noP) (y0 qJ (cF (.int 1)))) (zb (zO yt (zb (vF 2) (zb (vF 8) zu))) zu)))) zu))) (yv (cF (.bl false))) nxF))) (yv (HH (zc eqF (zO uG (zb (vF 4) (zb (vF 3) (zb (vF 5) zu)))) (vF 6)) (HH (zc eqF (zO vX (zb (vF 4) (zb (vF 3) zu))) (vF 6)) (zc eqF (vF 4) (vF 2)))))))))))))
noncomputable def g_law : List D -> Option D := vJ 9 Ct
theorem jg : FnScope ["_law_script", "_law_wide", "_law_house_here", "_law_word_here", "_law_handed", "_law_paper", "_law_end", "_law_at", "_law_i"] ["_law_script"] (zd YL) := ⟨rfl, rfl, rfl, by decide +kernel, rfl, by decide +kernel, by decide +kernel⟩
theorem Dt (Fn : Fun K "law" "law" YL f fd) (T : Txt K mg) (h_l_below : HasFn P w K mg base 2 "_law_below" 1 xy) (h_l_cell_at : HasFn P w K mg base 1 "_law_cell_at" 2 zT) (h_l_house : HasFn P w K mg base 2 "_law_house" 2 vC) (h_l_images : HasFn P w K mg base 3 "_law_images" 2 wo) (h_l_is_short : HasFn P w K mg base 3 "_law_is_short" 2 xR) (h_l_led : HasFn P w K mg base 2 "_law_led" 3 xI) (h_l_simple : HasFn P w K mg base 1 "_law_simple" 2 yt) (h_l_walked : HasFn P w K mg base 3 "_law_walked" 3 wm) (h_l_word : HasFn P w K mg base 2 "_law_word" 4 vM) (h_least : HasFn P w K mg base 6 "least" 2 vX) (h_to_least : HasFn P w K mg base 24 "to_least" 2 uv) (h_walked : HasFn P w K mg base 4 "walked" 3 uG) :
  FnOk P w K mg base CX0 25 f fd ["_law_script"] (spF K 1 g_law) :=
 yb (k := 24) (m := 9) (F := Ct) rfl rfl Fn jg fun cdv A outer s H E hr => (ze (zZ 1 jg.nd (Cf hr (DE.dr (uy (DE.dr (zr h_l_cell_at (hr.mono (by decide)) rfl (za (dv 0) (za zg zk)) (zo (zo zX)))) (DE.dr zg))) (DE.dr zg))) (ze (zZ 2 jg.nd (zr h_l_house (hr.mono (by decide)) rfl (za (dv 0) (za (yY (DE.dr (DN.de (uS (za zg (za zg zk))))) (DE.dr (xD vH qT rfl T.int_b (by rfl) (zx (DE.dr (dv 1)) zU)))) zk)) (zo (zo zX)))) (ze (zZ 3 jg.nd (zr h_l_word (hr.mono (by decide)) rfl (za (dv 0) (za (dv 2) (za zg (za (yY (DE.dr (DN.de (uS (za zg (za zg (za zg (za zg zk))))))) (DE.dr (uy (DE.dr (zr h_l_cell_at (hr.mono (by decide)) rfl (za (dv 0) (za zg zk)) (zo (zo zX)))) (DE.dr zg)))) zk)))) (zo (zo (zo (zo zX)))))) (ze (zZ 4 jg.nd (xq (za (yY (DE.dr (dv 2)) (DE.dr zg)) (za (DN.de (Cc rfl T.list_b (zx (DE.dr (yY (DE.dr (dv 2)) (DE.dr zg))) zU))) zk)))) (ze (zZ 5 jg.nd (zr h_to_least (hr.mono (by decide)) rfl (za (dv 4) (za (dv 3) zk)) (zo (zo zX)))) (ze (zZ 6 jg.nd (zr h_l_walked (hr.mono (by decide)) rfl (za (dv 2) (za (dv 3) (za (dv 5) zk))) (zo (zo (zo zX))))) (ze (yT (DW.dt (ZY (Ca (DE.dr (dv 6)) (DE.dr ux)) (ZY (qN (jv (DE.dr (zr h_l_is_short (hr.mono (by decide)) rfl (za (dv 2) (za (dv 6) zk)) (zo (zo zX)))))) (Yn (Wh hr (DE.dr (zr h_l_images (hr.mono (by decide)) rfl (za (dv 2) (za (dv 6) zk)) (zo (zo zX)))) (DE.dr (zr h_l_images (hr.mono (by decide)) rfl (za (dv 2) (za (dv 3) zk)) (zo (zo zX))))))))) (zi (zw Fz)) zL) (ze (xZ PassesOwn.never rfl (xk rfl T.range_b (zx (DE.dr (wu vG jW rfl T.len_b (by rfl) (zx (DE.dr (dv 6)) zU))) zU)) (zQ 7 jg.nd) (zi (xZ PassesOwn.never rfl (xk rfl T.range_b (zx (DE.dr (yY (DE.dr (dv 6)) (DE.dr (dv 7)))) zU)) (zQ 8 jg.nd) (zi (yT (jv (DE.dr (zr h_l_below (hr.mono (by decide)) rfl (za (zr h_l_led (hr.mono (by decide)) rfl (za (dv 2) (za (Fb (DE.dr (yN (DE.dr (dv 6)) (wM (DE.dr (dv 7))) uU)) (DE.dr (vE (DE.dr zg)))) (za (zr h_l_simple (hr.mono (by decide)) rfl (za (dv 2) (za (dv 8) zk)) (zo (zo zX))) zk))) (zo (zo (zo zX)))) zk) (zo zX)))) (zi (zw Fz)) zL))))) (zi (zw (Qh (Cf hr (DE.dr (zr h_walked (hr.mono (by decide)) rfl (za (dv 4) (za (dv 3) (za (dv 5) zk))) (zo (zo (zo zX))))) (DE.dr (dv 6))) (Qh (Cf hr (DE.dr (zr h_least (hr.mono (by decide)) rfl (za (dv 4) (za (dv 3) zk)) (zo (zo zX)))) (DE.dr (dv 6))) (Ki (Cf hr (DE.dr (dv 4)) (DE.dr (dv 2))))))))))))))))
end
theorem all_mk {l : W.OpenLaw} {w : World} {K : W.Frag} {h : Heap} {mg : Str -> Option Value} {fa : Addr} (X : K.In h) (G : h.Ns mainGlobals mg) (hfa : mg "law" = some (.ref fa))
  {f0 : Addr} {oc0 : Value} {od0 an0 : Option Addr} {osl0 : Array (Option Value)} {kV0 doc0 pm0 cdv0 ct0 : Value}
  {f1 : Addr} {oc1 : Value} {od1 an1 : Option Addr} {osl1 : Array (Option Value)} {kV1 doc1 pm1 cdv1 ct1 : Value}
  {f2 : Addr} {oc2 : Value} {od2 an2 : Option Addr} {osl2 : Array (Option Value)} {kV2 doc2 pm2 cdv2 ct2 : Value}
  {f3 : Addr} {oc3 : Value} {od3 an3 : Option Addr} {osl3 : Array (Option Value)} {kV3 doc3 pm3 cdv3 ct3 : Value}
  {f4 : Addr} {oc4 : Value} {od4 an4 : Option Addr} {osl4 : Array (Option Value)} {kV4 doc4 pm4 cdv4 ct4 : Value}
  {f5 : Addr} {oc5 : Value} {od5 an5 : Option Addr} {osl5 : Array (Option Value)} {kV5 doc5 pm5 cdv5 ct5 : Value}
  {f6 : Addr} {oc6 : Value} {od6 an6 : Option Addr} {osl6 : Array (Option Value)} {kV6 doc6 pm6 cdv6 ct6 : Value}
  {f7 : Addr} {oc7 : Value} {od7 an7 : Option Addr} {osl7 : Array (Option Value)} {kV7 doc7 pm7 cdv7 ct7 : Value}
  {f8 : Addr} {oc8 : Value} {od8 an8 : Option Addr} {osl8 : Array (Option Value)} {kV8 doc8 pm8 cdv8 ct8 : Value}
  {f9 : Addr} {oc9 : Value} {od9 an9 : Option Addr} {osl9 : Array (Option Value)} {kV9 doc9 pm9 cdv9 ct9 : Value}
  {f10 : Addr} {oc10 : Value} {od10 an10 : Option Addr} {osl10 : Array (Option Value)} {kV10 doc10 pm10 cdv10 ct10 : Value}
  {f11 : Addr} {oc11 : Value} {od11 an11 : Option Addr} {osl11 : Array (Option Value)} {kV11 doc11 pm11 cdv11 ct11 : Value}
  {f12 : Addr} {oc12 : Value} {od12 an12 : Option Addr} {osl12 : Array (Option Value)} {kV12 doc12 pm12 cdv12 ct12 : Value}
  {f13 : Addr} {oc13 : Value} {od13 an13 : Option Addr} {osl13 : Array (Option Value)} {kV13 doc13 pm13 cdv13 ct13 : Value}
  {f14 : Addr} {oc14 : Value} {od14 an14 : Option Addr} {osl14 : Array (Option Value)} {kV14 doc14 pm14 cdv14 ct14 : Value}
  {f15 : Addr} {oc15 : Value} {od15 an15 : Option Addr} {osl15 : Array (Option Value)} {kV15 doc15 pm15 cdv15 ct15 : Value}
  {f16 : Addr} {oc16 : Value} {od16 an16 : Option Addr} {osl16 : Array (Option Value)} {kV16 doc16 pm16 cdv16 ct16 : Value}
  {f17 : Addr} {oc17 : Value} {od17 an17 : Option Addr} {osl17 : Array (Option Value)} {kV17 doc17 pm17 cdv17 ct17 : Value}
  {f18 : Addr} {oc18 : Value} {od18 an18 : Option Addr} {osl18 : Array (Option Value)} {kV18 doc18 pm18 cdv18 ct18 : Value}
  {f19 : Addr} {oc19 : Value} {od19 an19 : Option Addr} {osl19 : Array (Option Value)} {kV19 doc19 pm19 cdv19 ct19 : Value}
  {f20 : Addr} {oc20 : Value} {od20 an20 : Option Addr} {osl20 : Array (Option Value)} {kV20 doc20 pm20 cdv20 ct20 : Value}
  {f21 : Addr} {oc21 : Value} {od21 an21 : Option Addr} {osl21 : Array (Option Value)} {kV21 doc21 pm21 cdv21 ct21 : Value}
  {f22 : Addr} {oc22 : Value} {od22 an22 : Option Addr} {osl22 : Array (Option Value)} {kV22 doc22 pm22 cdv22 ct22 : Value}
  {f23 : Addr} {oc23 : Value} {od23 an23 : Option Addr} {osl23 : Array (Option Value)} {kV23 doc23 pm23 cdv23 ct23 : Value}
  {f24 : Addr} {oc24 : Value} {od24 an24 : Option Addr} {osl24 : Array (Option Value)} {kV24 doc24 pm24 cdv24 ct24 : Value}
  {f25 : Addr} {oc25 : Value} {od25 an25 : Option Addr} {osl25 : Array (Option Value)} {kV25 doc25 pm25 cdv25 ct25 : Value}
  {f26 : Addr} {oc26 : Value} {od26 an26 : Option Addr} {osl26 : Array (Option Value)} {kV26 doc26 pm26 cdv26 ct26 : Value}
  {f27 : Addr} {oc27 : Value} {od27 an27 : Option Addr} {osl27 : Array (Option Value)} {kV27 doc27 pm27 cdv27 ct27 : Value}
  {f28 : Addr} {oc28 : Value} {od28 an28 : Option Addr} {osl28 : Array (Option Value)} {kV28 doc28 pm28 cdv28 ct28 : Value}
  {f29 : Addr} {oc29 : Value} {od29 an29 : Option Addr} {osl29 : Array (Option Value)} {kV29 doc29 pm29 cdv29 ct29 : Value}
  {f30 : Addr} {oc30 : Value} {od30 an30 : Option Addr} {osl30 : Array (Option Value)} {kV30 doc30 pm30 cdv30 ct30 : Value}
  {f31 : Addr} {oc31 : Value} {od31 an31 : Option Addr} {osl31 : Array (Option Value)} {kV31 doc31 pm31 cdv31 ct31 : Value}
  {f32 : Addr} {oc32 : Value} {od32 an32 : Option Addr} {osl32 : Array (Option Value)} {kV32 doc32 pm32 cdv32 ct32 : Value}
  {f33 : Addr} {oc33 : Value} {od33 an33 : Option Addr} {osl33 : Array (Option Value)} {kV33 doc33 pm33 cdv33 ct33 : Value}
  {f34 : Addr} {oc34 : Value} {od34 an34 : Option Addr} {osl34 : Array (Option Value)} {kV34 doc34 pm34 cdv34 ct34 : Value}
  {f35 : Addr} {oc35 : Value} {od35 an35 : Option Addr} {osl35 : Array (Option Value)} {kV35 doc35 pm35 cdv35 ct35 : Value}
  {f36 : Addr} {oc36 : Value} {od36 an36 : Option Addr} {osl36 : Array (Option Value)} {kV36 doc36 pm36 cdv36 ct36 : Value}
  {f37 : Addr} {oc37 : Value} {od37 an37 : Option Addr} {osl37 : Array (Option Value)} {kV37 doc37 pm37 cdv37 ct37 : Value}
  {f38 : Addr} {oc38 : Value} {od38 an38 : Option Addr} {osl38 : Array (Option Value)} {kV38 doc38 pm38 cdv38 ct38 : Value}
  {f39 : Addr} {oc39 : Value} {od39 an39 : Option Addr} {osl39 : Array (Option Value)} {kV39 doc39 pm39 cdv39 ct39 : Value}
  {f40 : Addr} {oc40 : Value} {od40 an40 : Option Addr} {osl40 : Array (Option Value)} {kV40 doc40 pm40 cdv40 ct40 : Value}
  {f41 : Addr} {oc41 : Value} {od41 an41 : Option Addr} {osl41 : Array (Option Value)} {kV41 doc41 pm41 cdv41 ct41 : Value}
  {f42 : Addr} {oc42 : Value} {od42 an42 : Option Addr} {osl42 : Array (Option Value)} {kV42 doc42 pm42 cdv42 ct42 : Value}
  {f43 : Addr} {oc43 : Value} {od43 an43 : Option Addr} {osl43 : Array (Option Value)} {kV43 doc43 pm43 cdv43 ct43 : Value}
  {t_DROP : Tok}
  {t_NEVER : Tok}
  {t_NOT_TOLD : Tok}
  {tk_NOUGHT_0 : Tok}
  {tk_NOUGHT_1 : Tok}
  {ta_NOUGHT : Addr} {od_NOUGHT : Option Addr} {n_NOUGHT : Nat} {osl_NOUGHT : Array (Option Value)}
  {tk_ONE_0 : Tok}
  {tk_ONE_1 : Tok}
  {ta_ONE : Addr} {od_ONE : Option Addr} {n_ONE : Nat} {osl_ONE : Array (Option Value)}
  {tk_PULLS_BELOW_NOUGHT_0_0 : Tok}
  {tk_PULLS_BELOW_NOUGHT_0_1 : Tok}
  {ta_PULLS_BELOW_NOUGHT_0 : Addr} {od_PULLS_BELOW_NOUGHT_0 : Option Addr} {n_PULLS_BELOW_NOUGHT_0 : Nat} {osl_PULLS_BELOW_NOUGHT_0 : Array (Option Value)}
  {kk_PULLS_BELOW_NOUGHT_0 : Tok}
  {tk_PULLS_BELOW_NOUGHT_1_0 : Tok}
  {tk_PULLS_BELOW_NOUGHT_1_1 : Tok}
  {ta_PULLS_BELOW_NOUGHT_1 : Addr} {od_PULLS_BELOW_NOUGHT_1 : Option Addr} {n_PULLS_BELOW_NOUGHT_1 : Nat} {osl_PULLS_BELOW_NOUGHT_1 : Array (Option Value)}
  {kk_PULLS_BELOW_NOUGHT_1 : Tok}
  {tk_PULLS_BELOW_NOUGHT_2_0 : Tok}
  {tk_PULLS_BELOW_NOUGHT_2_1 : Tok}
  {ta_PULLS_BELOW_NOUGHT_2 : Addr} {od_PULLS_BELOW_NOUGHT_2 : Option Addr} {n_PULLS_BELOW_NOUGHT_2 : Nat} {osl_PULLS_BELOW_NOUGHT_2 : Array (Option Value)}
  {kk_PULLS_BELOW_NOUGHT_2 : Tok}
  {tk_PULLS_BELOW_NOUGHT_3_0 : Tok}
  {tk_PULLS_BELOW_NOUGHT_3_1 : Tok}
  {ta_PULLS_BELOW_NOUGHT_3 : Addr} {od_PULLS_BELOW_NOUGHT_3 : Option Addr} {n_PULLS_BELOW_NOUGHT_3 : Nat} {osl_PULLS_BELOW_NOUGHT_3 : Array (Option Value)}
  {kk_PULLS_BELOW_NOUGHT_3 : Tok}
  {tk_PULLS_BELOW_NOUGHT_4_0 : Tok}
  {tk_PULLS_BELOW_NOUGHT_4_1 : Tok}
  {ta_PULLS_BELOW_NOUGHT_4 : Addr} {od_PULLS_BELOW_NOUGHT_4 : Option Addr} {n_PULLS_BELOW_NOUGHT_4 : Nat} {osl_PULLS_BELOW_NOUGHT_4 : Array (Option Value)}
  {kk_PULLS_BELOW_NOUGHT_4 : Tok}
  {tk_PULLS_BELOW_NOUGHT_5_0 : Tok}
  {tk_PULLS_BELOW_NOUGHT_5_1 : Tok}
  {ta_PULLS_BELOW_NOUGHT_5 : Addr} {od_PULLS_BELOW_NOUGHT_5 : Option Addr} {n_PULLS_BELOW_NOUGHT_5 : Nat} {osl_PULLS_BELOW_NOUGHT_5 : Array (Option Value)}
  {kk_PULLS_BELOW_NOUGHT_5 : Tok}
  {da_PULLS_BELOW_NOUGHT : Addr} {ep_PULLS_BELOW_NOUGHT : Nat}
  {t_TURN : Tok}
  {WC : Addr}
  {wf0 : Addr} {woc0 : Value} {wod0 wan0 : Option Addr} {wosl0 : Array (Option Value)} {wkV0 wdoc0 wpm0 wcdv0 wct0 : Value}
  {wf1 : Addr} {woc1 : Value} {wod1 wan1 : Option Addr} {wosl1 : Array (Option Value)} {wkV1 wdoc1 wpm1 wcdv1 wct1 : Value}
  {wf2 : Addr} {woc2 : Value} {wod2 wan2 : Option Addr} {wosl2 : Array (Option Value)} {wkV2 wdoc2 wpm2 wcdv2 wct2 : Value}
  {wf3 : Addr} {woc3 : Value} {wod3 wan3 : Option Addr} {wosl3 : Array (Option Value)} {wkV3 wdoc3 wpm3 wcdv3 wct3 : Value}
  (a0 : W.nsIn K mainGlobals "plus" = some (some (.ref f0))) (l0 : K.lookup f0 = some ⟨oc0, od0, .func (W.fnOf "plus" "plus" (zA Z9) (zy Z9) (zd Z9) .none kV0 doc0 pm0 an0 cdv0 ct0), osl0⟩) (c0 : W.codeIn K cdv0 "plus" = true) (k0 : W.keepIn K (.ref f0) = true)
  (a1 : W.nsIn K mainGlobals "times" = some (some (.ref f1))) (l1 : K.lookup f1 = some ⟨oc1, od1, .func (W.fnOf "times" "times" (zA jI) (zy jI) (zd jI) .none kV1 doc1 pm1 an1 cdv1 ct1), osl1⟩) (c1 : W.codeIn K cdv1 "times" = true) (k1 : W.keepIn K (.ref f1) = true)
  (a2 : W.nsIn K mainGlobals "minus" = some (some (.ref f2))) (l2 : K.lookup f2 = some ⟨oc2, od2, .func (W.fnOf "minus" "minus" (zA jJ) (zy jJ) (zd jJ) .none kV2 doc2 pm2 an2 cdv2 ct2), osl2⟩) (c2 : W.codeIn K cdv2 "minus" = true) (k2 : W.keepIn K (.ref f2) = true)
  (a3 : W.nsIn K mainGlobals "whole_sign" = some (some (.ref f3))) (l3 : K.lookup f3 = some ⟨oc3, od3, .func (W.fnOf "whole_sign" "whole_sign" (zA xJ) (zy xJ) (zd xJ) .none kV3 doc3 pm3 an3 cdv3 ct3), osl3⟩) (c3 : W.codeIn K cdv3 "whole_sign" = true) (k3 : W.keepIn K (.ref f3) = true)
  (a4 : W.nsIn K mainGlobals "sign" = some (some (.ref f4))) (l4 : K.lookup f4 = some ⟨oc4, od4, .func (W.fnOf "sign" "sign" (zA Z7) (zy Z7) (zd Z7) .none kV4 doc4 pm4 an4 cdv4 ct4), osl4⟩) (c4 : W.codeIn K cdv4 "sign" = true) (k4 : W.keepIn K (.ref f4) = true)
  (a5 : W.nsIn K mainGlobals "turn_of" = some (some (.ref f5))) (l5 : K.lookup f5 = some ⟨oc5, od5, .func (W.fnOf "turn_of" "turn_of" (zA ud) (zy ud) (zd ud) .none kV5 doc5 pm5 an5 cdv5 ct5), osl5⟩) (c5 : W.codeIn K cdv5 "turn_of" = true) (k5 : W.keepIn K (.ref f5) = true)
  (a6 : W.nsIn K mainGlobals "pull" = some (some (.ref f6))) (l6 : K.lookup f6 = some ⟨oc6, od6, .func (W.fnOf "pull" "pull" (zA Z8) (zy Z8) (zd Z8) .none kV6 doc6 pm6 an6 cdv6 ct6), osl6⟩) (c6 : W.codeIn K cdv6 "pull" = true) (k6 : W.keepIn K (.ref f6) = true)
  (a7 : W.nsIn K mainGlobals "simple" = some (some (.ref f7))) (l7 : K.lookup f7 = some ⟨oc7, od7, .func (W.fnOf "simple" "simple" (zA qw) (zy qw) (zd qw) .none kV7 doc7 pm7 an7 cdv7 ct7), osl7⟩) (c7 : W.codeIn K cdv7 "simple" = true) (k7 : W.keepIn K (.ref f7) = true)
  (a8 : W.nsIn K mainGlobals "mirrored" = some (some (.ref f8))) (l8 : K.lookup f8 = some ⟨oc8, od8, .func (W.fnOf "mirrored" "mirrored" (zA ve) (zy ve) (zd ve) .none kV8 doc8 pm8 an8 cdv8 ct8), osl8⟩) (c8 : W.codeIn K cdv8 "mirrored" = true) (k8 : W.keepIn K (.ref f8) = true)
  (a9 : W.nsIn K mainGlobals "led" = some (some (.ref f9))) (l9 : K.lookup f9 = some ⟨oc9, od9, .func (W.fnOf "led" "led" (zA UL) (zy UL) (zd UL) .none kV9 doc9 pm9 an9 cdv9 ct9), osl9⟩) (c9 : W.codeIn K cdv9 "led" = true) (k9 : W.keepIn K (.ref f9) = true)
  (a10 : W.nsIn K mainGlobals "images" = some (some (.ref f10))) (l10 : K.lookup f10 = some ⟨oc10, od10, .func (W.fnOf "images" "images" (zA qB) (zy qB) (zd qB) .none kV10 doc10 pm10 an10 cdv10 ct10), osl10⟩) (c10 : W.codeIn K cdv10 "images" = true) (k10 : W.keepIn K (.ref f10) = true)
  (a11 : W.nsIn K mainGlobals "less_by" = some (some (.ref f11))) (l11 : K.lookup f11 = some ⟨oc11, od11, .func (W.fnOf "less_by" "less_by" (zA uf) (zy uf) (zd uf) .none kV11 doc11 pm11 an11 cdv11 ct11), osl11⟩) (c11 : W.codeIn K cdv11 "less_by" = true) (k11 : W.keepIn K (.ref f11) = true)
  (a12 : W.nsIn K mainGlobals "images_with_behind" = some (some (.ref f12))) (l12 : K.lookup f12 = some ⟨oc12, od12, .func (W.fnOf "images_with_behind" "images_with_behind" (zA yi) (zy yi) (zd yi) .none kV12 doc12 pm12 an12 cdv12 ct12), osl12⟩) (c12 : W.codeIn K cdv12 "images_with_behind" = true) (k12 : W.keepIn K (.ref f12) = true)
  (a13 : W.nsIn K mainGlobals "is_above" = some (some (.ref f13))) (l13 : K.lookup f13 = some ⟨oc13, od13, .func (W.fnOf "is_above" "is_above" (zA vn) (zy vn) (zd vn) .none kV13 doc13 pm13 an13 cdv13 ct13), osl13⟩) (c13 : W.codeIn K cdv13 "is_above" = true) (k13 : W.keepIn K (.ref f13) = true)
  (a14 : W.nsIn K mainGlobals "is_below" = some (some (.ref f14))) (l14 : K.lookup f14 = some ⟨oc14, od14, .func (W.fnOf "is_below" "is_below" (zA vk) (zy vk) (zd vk) .none kV14 doc14 pm14 an14 cdv14 ct14), osl14⟩) (c14 : W.codeIn K cdv14 "is_below" = true) (k14 : W.keepIn K (.ref f14) = true)
  (a15 : W.nsIn K mainGlobals "which_lengthen" = some (some (.ref f15))) (l15 : K.lookup f15 = some ⟨oc15, od15, .func (W.fnOf "which_lengthen" "which_lengthen" (zA yP) (zy yP) (zd yP) .none kV15 doc15 pm15 an15 cdv15 ct15), osl15⟩) (c15 : W.codeIn K cdv15 "which_lengthen" = true) (k15 : W.keepIn K (.ref f15) = true)
  (a16 : W.nsIn K mainGlobals "is_short" = some (some (.ref f16))) (l16 : K.lookup f16 = some ⟨oc16, od16, .func (W.fnOf "is_short" "is_short" (zA vj) (zy vj) (zd vj) .none kV16 doc16 pm16 an16 cdv16 ct16), osl16⟩) (c16 : W.codeIn K cdv16 "is_short" = true) (k16 : W.keepIn K (.ref f16) = true)
  (a17 : W.nsIn K mainGlobals "first_below" = some (some (.ref f17))) (l17 : K.lookup f17 = some ⟨oc17, od17, .func (W.fnOf "first_below" "first_below" (zA xn) (zy xn) (zd xn) .none kV17 doc17 pm17 an17 cdv17 ct17), osl17⟩) (c17 : W.codeIn K cdv17 "first_below" = true) (k17 : W.keepIn K (.ref f17) = true)
  (a18 : W.nsIn K mainGlobals "least" = some (some (.ref f18))) (l18 : K.lookup f18 = some ⟨oc18, od18, .func (W.fnOf "least" "least" (zA jK) (zy jK) (zd jK) .none kV18 doc18 pm18 an18 cdv18 ct18), osl18⟩) (c18 : W.codeIn K cdv18 "least" = true) (k18 : W.keepIn K (.ref f18) = true)
  (a19 : W.nsIn K mainGlobals "in_turn" = some (some (.ref f19))) (l19 : K.lookup f19 = some ⟨oc19, od19, .func (W.fnOf "in_turn" "in_turn" (zA um) (zy um) (zd um) .none kV19 doc19 pm19 an19 cdv19 ct19), osl19⟩) (c19 : W.codeIn K cdv19 "in_turn" = true) (k19 : W.keepIn K (.ref f19) = true)
  (a20 : W.nsIn K mainGlobals "after_drop" = some (some (.ref f20))) (l20 : K.lookup f20 = some ⟨oc20, od20, .func (W.fnOf "after_drop" "after_drop" (zA xP) (zy xP) (zd xP) .none kV20 doc20 pm20 an20 cdv20 ct20), osl20⟩) (c20 : W.codeIn K cdv20 "after_drop" = true) (k20 : W.keepIn K (.ref f20) = true)
  (a21 : W.nsIn K mainGlobals "is_mirror" = some (some (.ref f21))) (l21 : K.lookup f21 = some ⟨oc21, od21, .func (W.fnOf "is_mirror" "is_mirror" (zA wc) (zy wc) (zd wc) .none kV21 doc21 pm21 an21 cdv21 ct21), osl21⟩) (c21 : W.codeIn K cdv21 "is_mirror" = true) (k21 : W.keepIn K (.ref f21) = true)
  (a22 : W.nsIn K mainGlobals "after_turn" = some (some (.ref f22))) (l22 : K.lookup f22 = some ⟨oc22, od22, .func (W.fnOf "after_turn" "after_turn" (zA xN) (zy xN) (zd xN) .none kV22 doc22 pm22 an22 cdv22 ct22), osl22⟩) (c22 : W.codeIn K cdv22 "after_turn" = true) (k22 : W.keepIn K (.ref f22) = true)
  (a23 : W.nsIn K mainGlobals "after_move" = some (some (.ref f23))) (l23 : K.lookup f23 = some ⟨oc23, od23, .func (W.fnOf "after_move" "after_move" (zA xO) (zy xO) (zd xO) .none kV23 doc23 pm23 an23 cdv23 ct23), osl23⟩) (c23 : W.codeIn K cdv23 "after_move" = true) (k23 : W.keepIn K (.ref f23) = true)
  (a24 : W.nsIn K mainGlobals "walked" = some (some (.ref f24))) (l24 : K.lookup f24 = some ⟨oc24, od24, .func (W.fnOf "walked" "walked" (zA qv) (zy qv) (zd qv) .none kV24 doc24 pm24 an24 cdv24 ct24), osl24⟩) (c24 : W.codeIn K cdv24 "walked" = true) (k24 : W.keepIn K (.ref f24) = true)
  (a25 : W.nsIn K mainGlobals "to_least" = some (some (.ref f25))) (l25 : K.lookup f25 = some ⟨oc25, od25, .func (W.fnOf "to_least" "to_least" (zA vd) (zy vd) (zd vd) .none kV25 doc25 pm25 an25 cdv25 ct25), osl25⟩) (c25 : W.codeIn K cdv25 "to_least" = true) (k25 : W.keepIn K (.ref f25) = true)
  (a26 : W.nsIn K mainGlobals "_law_cell_at" = some (some (.ref f26))) (l26 : K.lookup f26 = some ⟨oc26, od26, .func (W.fnOf "_law_cell_at" "_law_cell_at" (zA x9) (zy x9) (zd x9) .none kV26 doc26 pm26 an26 cdv26 ct26), osl26⟩) (c26 : W.codeIn K cdv26 "_law_cell_at" = true) (k26 : W.keepIn K (.ref f26) = true)
  (a27 : W.nsIn K mainGlobals "_law_mix" = some (some (.ref f27))) (l27 : K.lookup f27 = some ⟨oc27, od27, .func (W.fnOf "_law_mix" "_law_mix" (zA jL) (zy jL) (zd jL) .none kV27 doc27 pm27 an27 cdv27 ct27), osl27⟩) (c27 : W.codeIn K cdv27 "_law_mix" = true) (k27 : W.keepIn K (.ref f27) = true)
  (a28 : W.nsIn K mainGlobals "_law_whole" = some (some (.ref f28))) (l28 : K.lookup f28 = some ⟨oc28, od28, .func (W.fnOf "_law_whole" "_law_whole" (zA ug) (zy ug) (zd ug) .none kV28 doc28 pm28 an28 cdv28 ct28), osl28⟩) (c28 : W.codeIn K cdv28 "_law_whole" = true) (k28 : W.keepIn K (.ref f28) = true)
  (a29 : W.nsIn K mainGlobals "_law_house" = some (some (.ref f29))) (l29 : K.lookup f29 = some ⟨oc29, od29, .func (W.fnOf "_law_house" "_law_house" (zA uj) (zy uj) (zd uj) .none kV29 doc29 pm29 an29 cdv29 ct29), osl29⟩) (c29 : W.codeIn K cdv29 "_law_house" = true) (k29 : W.keepIn K (.ref f29) = true)
  (a30 : W.nsIn K mainGlobals "_law_word" = some (some (.ref f30))) (l30 : K.lookup f30 = some ⟨oc30, od30, .func (W.fnOf "_law_word" "_law_word" (zA qx) (zy qx) (zd qx) .none kV30 doc30 pm30 an30 cdv30 ct30), osl30⟩) (c30 : W.codeIn K cdv30 "_law_word" = true) (k30 : W.keepIn K (.ref f30) = true)
  (a31 : W.nsIn K mainGlobals "_law_plus" = some (some (.ref f31))) (l31 : K.lookup f31 = some ⟨oc31, od31, .func (W.fnOf "_law_plus" "_law_plus" (zA qA) (zy qA) (zd qA) .none kV31 doc31 pm31 an31 cdv31 ct31), osl31⟩) (c31 : W.codeIn K cdv31 "_law_plus" = true) (k31 : W.keepIn K (.ref f31) = true)
  (a32 : W.nsIn K mainGlobals "_law_times" = some (some (.ref f32))) (l32 : K.lookup f32 = some ⟨oc32, od32, .func (W.fnOf "_law_times" "_law_times" (zA uh) (zy uh) (zd uh) .none kV32 doc32 pm32 an32 cdv32 ct32), osl32⟩) (c32 : W.codeIn K cdv32 "_law_times" = true) (k32 : W.keepIn K (.ref f32) = true)
  (a33 : W.nsIn K mainGlobals "_law_sign" = some (some (.ref f33))) (l33 : K.lookup f33 = some ⟨oc33, od33, .func (W.fnOf "_law_sign" "_law_sign" (zA qy) (zy qy) (zd qy) .none kV33 doc33 pm33 an33 cdv33 ct33), osl33⟩) (c33 : W.codeIn K cdv33 "_law_sign" = true) (k33 : W.keepIn K (.ref f33) = true)
  (a34 : W.nsIn K mainGlobals "_law_pull" = some (some (.ref f34))) (l34 : K.lookup f34 = some ⟨oc34, od34, .func (W.fnOf "_law_pull" "_law_pull" (zA qz) (zy qz) (zd qz) .none kV34 doc34 pm34 an34 cdv34 ct34), osl34⟩) (c34 : W.codeIn K cdv34 "_law_pull" = true) (k34 : W.keepIn K (.ref f34) = true)
  (a35 : W.nsIn K mainGlobals "_law_led" = some (some (.ref f35))) (l35 : K.lookup f35 = some ⟨oc35, od35, .func (W.fnOf "_law_led" "_law_led" (zA jM) (zy jM) (zd jM) .none kV35 doc35 pm35 an35 cdv35 ct35), osl35⟩) (c35 : W.codeIn K cdv35 "_law_led" = true) (k35 : W.keepIn K (.ref f35) = true)
  (a36 : W.nsIn K mainGlobals "_law_simple" = some (some (.ref f36))) (l36 : K.lookup f36 = some ⟨oc36, od36, .func (W.fnOf "_law_simple" "_law_simple" (zA vg) (zy vg) (zd vg) .none kV36 doc36 pm36 an36 cdv36 ct36), osl36⟩) (c36 : W.codeIn K cdv36 "_law_simple" = true) (k36 : W.keepIn K (.ref f36) = true)
  (a37 : W.nsIn K mainGlobals "_law_images" = some (some (.ref f37))) (l37 : K.lookup f37 = some ⟨oc37, od37, .func (W.fnOf "_law_images" "_law_images" (zA vi) (zy vi) (zd vi) .none kV37 doc37 pm37 an37 cdv37 ct37), osl37⟩) (c37 : W.codeIn K cdv37 "_law_images" = true) (k37 : W.keepIn K (.ref f37) = true)
  (a38 : W.nsIn K mainGlobals "_law_below" = some (some (.ref f38))) (l38 : K.lookup f38 = some ⟨oc38, od38, .func (W.fnOf "_law_below" "_law_below" (zA uk) (zy uk) (zd uk) .none kV38 doc38 pm38 an38 cdv38 ct38), osl38⟩) (c38 : W.codeIn K cdv38 "_law_below" = true) (k38 : W.keepIn K (.ref f38) = true)
  (a39 : W.nsIn K mainGlobals "_law_is_short" = some (some (.ref f39))) (l39 : K.lookup f39 = some ⟨oc39, od39, .func (W.fnOf "_law_is_short" "_law_is_short" (zA xM) (zy xM) (zd xM) .none kV39 doc39 pm39 an39 cdv39 ct39), osl39⟩) (c39 : W.codeIn K cdv39 "_law_is_short" = true) (k39 : W.keepIn K (.ref f39) = true)
  (a40 : W.nsIn K mainGlobals "_law_m" = some (some (.ref f40))) (l40 : K.lookup f40 = some ⟨oc40, od40, .func (W.fnOf "_law_m" "_law_m" (zA UM) (zy UM) (zd UM) .none kV40 doc40 pm40 an40 cdv40 ct40), osl40⟩) (c40 : W.codeIn K cdv40 "_law_m" = true) (k40 : W.keepIn K (.ref f40) = true)
  (a41 : W.nsIn K mainGlobals "_law_moved" = some (some (.ref f41))) (l41 : K.lookup f41 = some ⟨oc41, od41, .func (W.fnOf "_law_moved" "_law_moved" (zA ui) (zy ui) (zd ui) .none kV41 doc41 pm41 an41 cdv41 ct41), osl41⟩) (c41 : W.codeIn K cdv41 "_law_moved" = true) (k41 : W.keepIn K (.ref f41) = true)
  (a42 : W.nsIn K mainGlobals "_law_walked" = some (some (.ref f42))) (l42 : K.lookup f42 = some ⟨oc42, od42, .func (W.fnOf "_law_walked" "_law_walked" (zA vf) (zy vf) (zd vf) .none kV42 doc42 pm42 an42 cdv42 ct42), osl42⟩) (c42 : W.codeIn K cdv42 "_law_walked" = true) (k42 : W.keepIn K (.ref f42) = true)
  (a43 : W.nsIn K mainGlobals "law" = some (some (.ref f43))) (l43 : K.lookup f43 = some ⟨oc43, od43, .func (W.fnOf "law" "law" (zA YL) (zy YL) (zd YL) .none kV43 doc43 pm43 an43 cdv43 ct43), osl43⟩) (c43 : W.codeIn K cdv43 "law" = true) (k43 : W.keepIn K (.ref f43) = true)
  (b_all : W.nsIn K mainGlobals "all" = some none)
  (b_bool : W.nsIn K mainGlobals "bool" = some none)
  (b_enumerate : W.nsIn K mainGlobals "enumerate" = some none)
  (b_int : W.nsIn K mainGlobals "int" = some none)
  (b_isinstance : W.nsIn K mainGlobals "isinstance" = some none)
  (b_len : W.nsIn K mainGlobals "len" = some none)
  (b_list : W.nsIn K mainGlobals "list" = some none)
  (b_max : W.nsIn K mainGlobals "max" = some none)
  (b_min : W.nsIn K mainGlobals "min" = some none)
  (b_range : W.nsIn K mainGlobals "range" = some none)
  (b_reversed : W.nsIn K mainGlobals "reversed" = some none)
  (b_tuple : W.nsIn K mainGlobals "tuple" = some none)
  (b_zip : W.nsIn K mainGlobals "zip" = some none)
  (q_DROP : W.nsIn K mainGlobals "DROP" = some (some (.str "drop" t_DROP)))
  (q_NEVER : W.nsIn K mainGlobals "NEVER" = some (some (.int 0 t_NEVER)))
  (q_NOT_TOLD : W.nsIn K mainGlobals "NOT_TOLD" = some (some (.int 2 t_NOT_TOLD)))
  (q_NOUGHT : W.nsIn K mainGlobals "NOUGHT" = some (some (.ref ta_NOUGHT)))
  (r_NOUGHT : K.lookup ta_NOUGHT = some ⟨.type "tuple", od_NOUGHT, .seq #[.int 0 tk_NOUGHT_0, .int 0 tk_NOUGHT_1] n_NOUGHT, osl_NOUGHT⟩)
  (q_ONE : W.nsIn K mainGlobals "ONE" = some (some (.ref ta_ONE)))
  (r_ONE : K.lookup ta_ONE = some ⟨.type "tuple", od_ONE, .seq #[.int 1 tk_ONE_0, .int 0 tk_ONE_1] n_ONE, osl_ONE⟩)
  (q_PULLS_BELOW_NOUGHT : W.nsIn K mainGlobals "PULLS_BELOW_NOUGHT" = some (some (.ref da_PULLS_BELOW_NOUGHT)))
  (r_PULLS_BELOW_NOUGHT : K.lookup da_PULLS_BELOW_NOUGHT = some ⟨.type "dict", none, .dict #[⟨0, .int 0 kk_PULLS_BELOW_NOUGHT_0, .ref ta_PULLS_BELOW_NOUGHT_0⟩, ⟨2, .int 2 kk_PULLS_BELOW_NOUGHT_1, .ref ta_PULLS_BELOW_NOUGHT_1⟩, ⟨3, .int 3 kk_PULLS_BELOW_NOUGHT_2, .ref ta_PULLS_BELOW_NOUGHT_2⟩, ⟨4, .int 4 kk_PULLS_BELOW_NOUGHT_3, .ref ta_PULLS_BELOW_NOUGHT_3⟩, ⟨5, .int 5 kk_PULLS_BELOW_NOUGHT_4, .ref ta_PULLS_BELOW_NOUGHT_4⟩, ⟨6, .int 6 kk_PULLS_BELOW_NOUGHT_5, .ref ta_PULLS_BELOW_NOUGHT_5⟩] ep_PULLS_BELOW_NOUGHT, #[]⟩)
  (r_PULLS_BELOW_NOUGHT_0 : K.lookup ta_PULLS_BELOW_NOUGHT_0 = some ⟨.type "tuple", od_PULLS_BELOW_NOUGHT_0, .seq #[.int 2 tk_PULLS_BELOW_NOUGHT_0_0, .int 0 tk_PULLS_BELOW_NOUGHT_0_1] n_PULLS_BELOW_NOUGHT_0, osl_PULLS_BELOW_NOUGHT_0⟩)
  (r_PULLS_BELOW_NOUGHT_1 : K.lookup ta_PULLS_BELOW_NOUGHT_1 = some ⟨.type "tuple", od_PULLS_BELOW_NOUGHT_1, .seq #[.int 0 tk_PULLS_BELOW_NOUGHT_1_0, .int 0 tk_PULLS_BELOW_NOUGHT_1_1] n_PULLS_BELOW_NOUGHT_1, osl_PULLS_BELOW_NOUGHT_1⟩)
  (r_PULLS_BELOW_NOUGHT_2 : K.lookup ta_PULLS_BELOW_NOUGHT_2 = some ⟨.type "tuple", od_PULLS_BELOW_NOUGHT_2, .seq #[.int 1 tk_PULLS_BELOW_NOUGHT_2_0, .int 0 tk_PULLS_BELOW_NOUGHT_2_1] n_PULLS_BELOW_NOUGHT_2, osl_PULLS_BELOW_NOUGHT_2⟩)
  (r_PULLS_BELOW_NOUGHT_3 : K.lookup ta_PULLS_BELOW_NOUGHT_3 = some ⟨.type "tuple", od_PULLS_BELOW_NOUGHT_3, .seq #[.int 2 tk_PULLS_BELOW_NOUGHT_3_0, .int 0 tk_PULLS_BELOW_NOUGHT_3_1] n_PULLS_BELOW_NOUGHT_3, osl_PULLS_BELOW_NOUGHT_3⟩)
  (r_PULLS_BELOW_NOUGHT_4 : K.lookup ta_PULLS_BELOW_NOUGHT_4 = some ⟨.type "tuple", od_PULLS_BELOW_NOUGHT_4, .seq #[.int 0 tk_PULLS_BELOW_NOUGHT_4_0, .int 1 tk_PULLS_BELOW_NOUGHT_4_1] n_PULLS_BELOW_NOUGHT_4, osl_PULLS_BELOW_NOUGHT_4⟩)
  (r_PULLS_BELOW_NOUGHT_5 : K.lookup ta_PULLS_BELOW_NOUGHT_5 = some ⟨.type "tuple", od_PULLS_BELOW_NOUGHT_5, .seq #[.int 3 tk_PULLS_BELOW_NOUGHT_5_0, .int 0 tk_PULLS_BELOW_NOUGHT_5_1] n_PULLS_BELOW_NOUGHT_5, osl_PULLS_BELOW_NOUGHT_5⟩)
  (q_TURN : W.nsIn K mainGlobals "TURN" = some (some (.str "turn" t_TURN)))
  (wC : W.nsIn K mainGlobals "Walk" = some (some (.ref WC)))
  (wa0 : PySem.W.findIn K (.ref WC) "__init__" = some (some (.ref wf0)))
  (wi0 : PySem.W.isFn K (.ref wf0) = true)
  (wl0 : K.lookup wf0 = some ⟨woc0, wod0, .func (W.fnOf "__init__" "Walk.__init__" (zA sWI) (zy sWI) (zd sWI) .none wkV0 wdoc0 wpm0 wan0 wcdv0 wct0), wosl0⟩)
  (wc0 : W.codeIn K wcdv0 "Walk.__init__" = true)
  (wk0 : W.keepIn K (.ref wf0) = true)
  (wa1 : PySem.W.findIn K (.ref WC) "do" = some (some (.ref wf1)))
  (wi1 : PySem.W.isFn K (.ref wf1) = true)
  (wl1 : K.lookup wf1 = some ⟨woc1, wod1, .func (W.fnOf "do" "Walk.do" (zA sWD) (zy sWD) (zd sWD) .none wkV1 wdoc1 wpm1 wan1 wcdv1 wct1), wosl1⟩)
  (wc1 : W.codeIn K wcdv1 "Walk.do" = true)
  (wk1 : W.keepIn K (.ref wf1) = true)
  (wa2 : PySem.W.findIn K (.ref WC) "bring" = some (some (.ref wf2)))
  (wi2 : PySem.W.isFn K (.ref wf2) = true)
  (wl2 : K.lookup wf2 = some ⟨woc2, wod2, .func (W.fnOf "bring" "Walk.bring" (zA sWB) (zy sWB) (zd sWB) .none wkV2 wdoc2 wpm2 wan2 wcdv2 wct2), wosl2⟩)
  (wc2 : W.codeIn K wcdv2 "Walk.bring" = true)
  (wk2 : W.keepIn K (.ref wf2) = true)
  (wa3 : PySem.W.findIn K (.ref WC) "shorten" = some (some (.ref wf3)))
  (wi3 : PySem.W.isFn K (.ref wf3) = true)
  (wl3 : K.lookup wf3 = some ⟨woc3, wod3, .func (W.fnOf "shorten" "Walk.shorten" (zA sWS) (zy sWS) (zd sWS) .none wkV3 wdoc3 wpm3 wan3 wcdv3 wct3), wosl3⟩)
  (wc3 : W.codeIn K wcdv3 "Walk.shorten" = true)
  (wk3 : W.keepIn K (.ref wf3) = true)
  (wpg : PySem.W.plainGet K WC Str.empty = true)
  (whd : PySem.W.hasDictIn K WC = true)
  (wpo : PySem.W.plainOver K WC = true)
  (wsa : PySem.W.findIn K (.ref WC) "__setattr__" = some (some (.builtin "object.__setattr__")))
  (wmk : PySem.W.makesIn K WC = true)
  (wkc : W.keepIn K (.ref WC) = true)
  (wnh : PySem.W.findIn K (.ref WC) "house" = some none)
  (wnw : PySem.W.findIn K (.ref WC) "word" = some none)
  (wnm : PySem.W.findIn K (.ref WC) "moves" = some none)
  : ∃ fd : FuncData, (∀ (s : Shared) (v : Value), BindsTo s fd ⟨[v], []⟩ [("_law_script", v)]) /\ ∀ base : Heap, K.In base -> base.Ns mainGlobals mg -> FnOk l.prog w K mg base CX0 25 fa fd ["_law_script"] (spF K 1 g_law) := by
 have e := hfa.symm.trans (W.mg_of X G a43)
 cases e
 have T : Txt K mg := ⟨trivial, W.mg_none_of X G b_all, W.mg_none_of X G b_bool, W.mg_none_of X G b_enumerate, W.mg_none_of X G b_int, W.mg_none_of X G b_isinstance, W.mg_none_of X G b_len, W.mg_none_of X G b_list, W.mg_none_of X G b_max, W.mg_none_of X G b_min, W.mg_none_of X G b_range, W.mg_none_of X G b_reversed, W.mg_none_of X G b_tuple, W.mg_none_of X G b_zip, ⟨_, W.mg_of X G q_DROP⟩, ⟨_, W.mg_of X G q_NEVER⟩, ⟨_, W.mg_of X G q_NOT_TOLD⟩, JZ (xs := [.int 0, .int 0]) (W.mg_of X G q_NOUGHT) r_NOUGHT (show 2 <= sizeLine from by decide) (.cons ⟨_, rfl⟩ (.cons ⟨_, rfl⟩ .nil)) (.cons (Has.int_iff.mpr rfl) (.cons (Has.int_iff.mpr rfl) .nil)), JZ (xs := [.int 1, .int 0]) (W.mg_of X G q_ONE) r_ONE (show 2 <= sizeLine from by decide) (.cons ⟨_, rfl⟩ (.cons ⟨_, rfl⟩ .nil)) (.cons (Has.int_iff.mpr rfl) (.cons (Has.int_iff.mpr rfl) .nil)), GL (W.mg_of X G q_PULLS_BELOW_NOUGHT) r_PULLS_BELOW_NOUGHT (.cons (v := .ref _) (by rfl) rfl (qE (xs := [.int 2, .int 0]) r_PULLS_BELOW_NOUGHT_0 (show 2 <= sizeLine from by decide) (.cons ⟨_, rfl⟩ (.cons ⟨_, rfl⟩ .nil)) (.cons (Has.int_iff.mpr rfl) (.cons (Has.int_iff.mpr rfl) .nil))) (.cons (v := .ref _) (by rfl) rfl (qE (xs := [.int 0, .int 0]) r_PULLS_BELOW_NOUGHT_1 (show 2 <= sizeLine from by decide) (.cons ⟨_, rfl⟩ (.cons ⟨_, rfl⟩ .nil)) (.cons (Has.int_iff.mpr rfl) (.cons (Has.int_iff.mpr rfl) .nil))) (.cons (v := .ref _) (by rfl) rfl (qE (xs := [.int 1, .int 0]) r_PULLS_BELOW_NOUGHT_2 (show 2 <= sizeLine from by decide) (.cons ⟨_, rfl⟩ (.cons ⟨_, rfl⟩ .nil)) (.cons (Has.int_iff.mpr rfl) (.cons (Has.int_iff.mpr rfl) .nil))) (.cons (v := .ref _) (by rfl) rfl (qE (xs := [.int 2, .int 0]) r_PULLS_BELOW_NOUGHT_3 (show 2 <= sizeLine from by decide) (.cons ⟨_, rfl⟩ (.cons ⟨_, rfl⟩ .nil)) (.cons (Has.int_iff.mpr rfl) (.cons (Has.int_iff.mpr rfl) .nil))) (.cons (v := .ref _) (by rfl) rfl (qE (xs := [.int 0, .int 1]) r_PULLS_BELOW_NOUGHT_4 (show 2 <= sizeLine from by decide) (.cons ⟨_, rfl⟩ (.cons ⟨_, rfl⟩ .nil)) (.cons (Has.int_iff.mpr rfl) (.cons (Has.int_iff.mpr rfl) .nil))) (.cons (v := .ref _) (by rfl) rfl (qE (xs := [.int 3, .int 0]) r_PULLS_BELOW_NOUGHT_5 (show 2 <= sizeLine from by decide) (.cons ⟨_, rfl⟩ (.cons ⟨_, rfl⟩ .nil)) (.cons (Has.int_iff.mpr rfl) (.cons (Has.int_iff.mpr rfl) .nil))) .nil)))))) (by decide), ⟨_, W.mg_of X G q_TURN⟩⟩
 have F0 := z6 (st := Z9) l0 c0 k0
 have B0 := F0.binds (ps := ["x", "y"]) fun _ _ _ _ _ _ => Ys (fun _ _ => rfl)
 have F1 := z6 (st := jI) l1 c1 k1
 have B1 := F1.binds (ps := ["x", "y"]) fun _ _ _ _ _ _ => Ys (fun _ _ => rfl)
 have F2 := z6 (st := jJ) l2 c2 k2
 have B2 := F2.binds (ps := ["x"]) fun _ _ _ _ _ _ => Qt (fun _ => rfl)
 have F3 := z6 (st := xJ) l3 c3 k3
 have B3 := F3.binds (ps := ["number"]) fun _ _ _ _ _ _ => Qt (fun _ => rfl)
 have F4 := z6 (st := Z7) l4 c4 k4
 have B4 := F4.binds (ps := ["x"]) fun _ _ _ _ _ _ => Qt (fun _ => rfl)
 have F5 := z6 (st := ud) l5 c5 k5
 have B5 := F5.binds (ps := ["house", "i", "j"]) fun _ _ _ _ _ _ => WA (fun _ _ _ => rfl)
 have F6 := z6 (st := Z8) l6 c6 k6
 have B6 := F6.binds (ps := ["house", "i", "j"]) fun _ _ _ _ _ _ => WA (fun _ _ _ => rfl)
 have F7 := z6 (st := qw) l7 c7 k7
 have B7 := F7.binds (ps := ["house", "i"]) fun _ _ _ _ _ _ => Ys (fun _ _ => rfl)
 have F8 := z6 (st := ve) l8 c8 k8
 have B8 := F8.binds (ps := ["house", "i", "row"]) fun _ _ _ _ _ _ => WA (fun _ _ _ => rfl)
 have F9 := z6 (st := UL) l9 c9 k9
 have B9 := F9.binds (ps := ["house", "word", "row"]) fun _ _ _ _ _ _ => WA (fun _ _ _ => rfl)
 have F10 := z6 (st := qB) l10 c10 k10
 have B10 := F10.binds (ps := ["house", "word"]) fun _ _ _ _ _ _ => Ys (fun _ _ => rfl)
 have F11 := z6 (st := uf) l11 c11 k11
 have B11 := F11.binds (ps := ["row", "factor", "other"]) fun _ _ _ _ _ _ => WA (fun _ _ _ => rfl)
 have F12 := z6 (st := yi) l12 c12 k12
 have B12 := F12.binds (ps := ["house", "rows", "i"]) fun _ _ _ _ _ _ => WA (fun _ _ _ => rfl)
 have F13 := z6 (st := vn) l13 c13 k13
 have B13 := F13.binds (ps := ["row"]) fun _ _ _ _ _ _ => Qt (fun _ => rfl)
 have F14 := z6 (st := vk) l14 c14 k14
 have B14 := F14.binds (ps := ["row"]) fun _ _ _ _ _ _ => Qt (fun _ => rfl)
 have F15 := z6 (st := yP) l15 c15 k15
 have B15 := F15.binds (ps := ["house", "word"]) fun _ _ _ _ _ _ => Ys (fun _ _ => rfl)
 have F16 := z6 (st := vj) l16 c16 k16
 have B16 := F16.binds (ps := ["house", "word"]) fun _ _ _ _ _ _ => Ys (fun _ _ => rfl)
 have F17 := z6 (st := xn) l17 c17 k17
 have B17 := F17.binds (ps := ["rows"]) fun _ _ _ _ _ _ => Qt (fun _ => rfl)
 have F18 := z6 (st := jK) l18 c18 k18
 have B18 := F18.binds (ps := ["house", "word"]) fun _ _ _ _ _ _ => Ys (fun _ _ => rfl)
 have F19 := z6 (st := um) l19 c19 k19
 have B19 := F19.binds (ps := ["i", "j", "signs"]) fun _ _ _ _ _ _ => WA (fun _ _ _ => rfl)
 have F20 := z6 (st := xP) l20 c20 k20
 have B20 := F20.binds (ps := ["word", "place"]) fun _ _ _ _ _ _ => Ys (fun _ _ => rfl)
 have F21 := z6 (st := wc) l21 c21 k21
 have B21 := F21.binds (ps := ["house", "i"]) fun _ _ _ _ _ _ => Ys (fun _ _ => rfl)
 have F22 := z6 (st := xN) l22 c22 k22
 have B22 := F22.binds (ps := ["house", "word", "place", "i", "j"]) fun _ _ _ _ _ _ => NG (fun _ _ _ _ _ => rfl)
 have F23 := z6 (st := xO) l23 c23 k23
 have B23 := F23.binds (ps := ["house", "word", "move"]) fun _ _ _ _ _ _ => WA (fun _ _ _ => rfl)
 have F24 := z6 (st := qv) l24 c24 k24
 have B24 := F24.binds (ps := ["house", "word", "paper"]) fun _ _ _ _ _ _ => WA (fun _ _ _ => rfl)
 have F25 := z6 (st := vd) l25 c25 k25
 have B25 := F25.binds (ps := ["house", "word"]) fun _ _ _ _ _ _ => Ys (fun _ _ => rfl)
 have F26 := z6 (st := x9) l26 c26 k26
 have B26 := F26.binds (ps := ["_law_script", "_law_k"]) fun _ _ _ _ _ _ => Ys (fun _ _ => rfl)
 have F27 := z6 (st := jL) l27 c27 k27
 have B27 := F27.binds (ps := ["_law_cell", "_law_k"]) fun _ _ _ _ _ _ => Ys (fun _ _ => rfl)
 have F28 := z6 (st := ug) l28 c28 k28
 have B28 := F28.binds (ps := ["_law_found"]) fun _ _ _ _ _ _ => Qt (fun _ => rfl)
 have F29 := z6 (st := uj) l29 c29 k29
 have B29 := F29.binds (ps := ["_law_script", "_law_most"]) fun _ _ _ _ _ _ => Ys (fun _ _ => rfl)
 have F30 := z6 (st := qx) l30 c30 k30
 have B30 := F30.binds (ps := ["_law_script", "_law_house_here", "_law_first", "_law_many"]) fun _ _ _ _ _ _ => Na (fun _ _ _ _ => rfl)
 have F31 := z6 (st := qA) l31 c31 k31
 have B31 := F31.binds (ps := ["_law_x", "_law_y"]) fun _ _ _ _ _ _ => Ys (fun _ _ => rfl)
 have F32 := z6 (st := uh) l32 c32 k32
 have B32 := F32.binds (ps := ["_law_x", "_law_y"]) fun _ _ _ _ _ _ => Ys (fun _ _ => rfl)
 have F33 := z6 (st := qy) l33 c33 k33
 have B33 := F33.binds (ps := ["_law_x"]) fun _ _ _ _ _ _ => Qt (fun _ => rfl)
 have F34 := z6 (st := qz) l34 c34 k34
 have B34 := F34.binds (ps := ["_law_house_here", "_law_i", "_law_j"]) fun _ _ _ _ _ _ => WA (fun _ _ _ => rfl)
 have F35 := z6 (st := jM) l35 c35 k35
 have B35 := F35.binds (ps := ["_law_house_here", "_law_word_here", "_law_row"]) fun _ _ _ _ _ _ => WA (fun _ _ _ => rfl)
 have F36 := z6 (st := vg) l36 c36 k36
 have B36 := F36.binds (ps := ["_law_house_here", "_law_i"]) fun _ _ _ _ _ _ => Ys (fun _ _ => rfl)
 have F37 := z6 (st := vi) l37 c37 k37
 have B37 := F37.binds (ps := ["_law_house_here", "_law_word_here"]) fun _ _ _ _ _ _ => Ys (fun _ _ => rfl)
 have F38 := z6 (st := uk) l38 c38 k38
 have B38 := F38.binds (ps := ["_law_row"]) fun _ _ _ _ _ _ => Qt (fun _ => rfl)
 have F39 := z6 (st := xM) l39 c39 k39
 have B39 := F39.binds (ps := ["_law_house_here", "_law_word_here"]) fun _ _ _ _ _ _ => Ys (fun _ _ => rfl)
 have F40 := z6 (st := UM) l40 c40 k40
 have B40 := F40.binds (ps := ["_law_house_here", "_law_i", "_law_j"]) fun _ _ _ _ _ _ => WA (fun _ _ _ => rfl)
 have F41 := z6 (st := ui) l41 c41 k41
 have B41 := F41.binds (ps := ["_law_house_here", "_law_word_here", "_law_move"]) fun _ _ _ _ _ _ => WA (fun _ _ _ => rfl)
 have F42 := z6 (st := vf) l42 c42 k42
 have B42 := F42.binds (ps := ["_law_house_here", "_law_word_here", "_law_paper"]) fun _ _ _ _ _ _ => WA (fun _ _ _ => rfl)
 have F43 := z6 (st := YL) l43 c43 k43
 have B43 := F43.binds (ps := ["_law_script"]) fun _ _ _ _ _ _ => Qt (fun _ => rfl)
 have WF0 := z6 (st := sWI) wl0 wc0 wk0
 have WF1 := z6 (st := sWD) wl1 wc1 wk1
 have WF2 := z6 (st := sWB) wl2 wc2 wk2
 have WF3 := z6 (st := sWS) wl3 wc3 wk3
 have WB0 := WF0.binds (ps := ["self", "house", "word"]) fun _ _ _ _ _ _ => WA (fun _ _ _ => rfl)
 have WB1 := WF1.binds (ps := ["self", "move"]) fun _ _ _ _ _ _ => Ys (fun _ _ => rfl)
 have WB2 := WF2.binds (ps := ["self", "place", "mirror"]) fun _ _ _ _ _ _ => WA (fun _ _ _ => rfl)
 have WB3 := WF3.binds (ps := ["self"]) fun _ _ _ _ _ _ => Qt (fun _ => rfl)
 have WW : Fo K mg := ⟨WC, wf0, wf1, wf2, wf3, _, _, _, _, ⟨wpg, whd, wpo, wsa⟩, wnh, wnw, wnm, W.mg_of X G wC, WF0, WF1, WF2, WF3, WB0, WB1, WB2, WB3, ⟨wmk, wa0, wi0, wkc⟩, ⟨wa1, wi1, wk1⟩, ⟨wa2, wi2, wk2⟩, ⟨wa3, wi3, wk3⟩⟩
 refine ⟨W.fnOf "law" "law" (zA YL) (zy YL) (zd YL) .none kV43 doc43 pm43 an43 cdv43 ct43, fun s v => .of_eq rfl, fun base _ _ => ?_⟩
 have H0 : HasFn l.prog w K mg base 1 "plus" 2 uQ := ⟨⟨_, _, _, Bz F0 T , W.mg_of X G a0, k0, B0⟩⟩
 have H1 : HasFn l.prog w K mg base 1 "times" 2 vz := ⟨⟨_, _, _, Gg F1 T , W.mg_of X G a1, k1, B1⟩⟩
 have H2 : HasFn l.prog w K mg base 1 "minus" 1 wQ := ⟨⟨_, _, _, Gh F2 T , W.mg_of X G a2, k2, B2⟩⟩
 have H3 : HasFn l.prog w K mg base 1 "whole_sign" 1 yq := ⟨⟨_, _, _, YV F3 T , W.mg_of X G a3, k3, B3⟩⟩
 have H4 : HasFn l.prog w K mg base 2 "sign" 1 uw := ⟨⟨_, _, _, Bx F4 T H3, W.mg_of X G a4, k4, B4⟩⟩
 have H5 : HasFn l.prog w K mg base 1 "turn_of" 3 zC := ⟨⟨_, _, _, UT F5 T , W.mg_of X G a5, k5, B5⟩⟩
 have H6 : HasFn l.prog w K mg base 2 "pull" 3 xi := ⟨⟨_, _, _, By F6 T H2 H5, W.mg_of X G a6, k6, B6⟩⟩
 have H7 : HasFn l.prog w K mg base 1 "simple" 2 vL := ⟨⟨_, _, _, Jp F7 T , W.mg_of X G a7, k7, B7⟩⟩
 have H8 : HasFn l.prog w K mg base 3 "mirrored" 3 wj := ⟨⟨_, _, _, W4 F8 T H2 H0 H6 H1, W.mg_of X G a8, k8, B8⟩⟩
 have H9 : HasFn l.prog w K mg base 4 "led" 3 X8 := ⟨⟨_, _, _, Ds F9 T H8, W.mg_of X G a9, k9, B9⟩⟩
 have H10 : HasFn l.prog w K mg base 5 "images" 2 vO := ⟨⟨_, _, _, Ju F10 T H9 H7, W.mg_of X G a10, k10, B10⟩⟩
 have H11 : HasFn l.prog w K mg base 2 "less_by" 3 wL := ⟨⟨_, _, _, UU F11 T H2 H0 H1, W.mg_of X G a11, k11, B11⟩⟩
 have H12 : HasFn l.prog w K mg base 3 "images_with_behind" 3 zH := ⟨⟨_, _, _, u4 F12 T H11 H6, W.mg_of X G a12, k12, B12⟩⟩
 have H13 : HasFn l.prog w K mg base 3 "is_above" 1 wt := ⟨⟨_, _, _, Va F13 T H4, W.mg_of X G a13, k13, B13⟩⟩
 have H14 : HasFn l.prog w K mg base 3 "is_below" 1 wq := ⟨⟨_, _, _, W9 F14 T H4, W.mg_of X G a14, k14, B14⟩⟩
 have H15 : HasFn l.prog w K mg base 6 "which_lengthen" 2 yQ := ⟨⟨_, _, _, jO F15 T H10 H12 H13, W.mg_of X G a15, k15, B15⟩⟩
 have H16 : HasFn l.prog w K mg base 7 "is_short" 2 yf := ⟨⟨_, _, _, W8 F16 T H15, W.mg_of X G a16, k16, B16⟩⟩
 have H17 : HasFn l.prog w K mg base 4 "first_below" 1 yR := ⟨⟨_, _, _, ZV F17 T H14, W.mg_of X G a17, k17, B17⟩⟩
 have H18 : HasFn l.prog w K mg base 6 "least" 2 vX := ⟨⟨_, _, _, Gi F18 T H17 H10 H12, W.mg_of X G a18, k18, B18⟩⟩
 have H19 : HasFn l.prog w K mg base 1 "in_turn" 3 zF := ⟨⟨_, _, _, U0 F19 T , W.mg_of X G a19, k19, B19⟩⟩
 have H20 : HasFn l.prog w K mg base 1 "after_drop" 2 yS := ⟨⟨_, _, _, YZ F20 T , W.mg_of X G a20, k20, B20⟩⟩
 have H21 : HasFn l.prog w K mg base 1 "is_mirror" 2 xj := ⟨⟨_, _, _, XT F21 T , W.mg_of X G a21, k21, B21⟩⟩
 have H22 : HasFn l.prog w K mg base 2 "after_turn" 5 yg := ⟨⟨_, _, _, YX F22 T H19 H21 H5, W.mg_of X G a22, k22, B22⟩⟩
 have H23 : HasFn l.prog w K mg base 3 "after_move" 3 zl := ⟨⟨_, _, _, YY F23 T H20 H22, W.mg_of X G a23, k23, B23⟩⟩
 have H24 : HasFn l.prog w K mg base 4 "walked" 3 uG := ⟨⟨_, _, _, Jo F24 T H23, W.mg_of X G a24, k24, B24⟩⟩
 have H25 : HasFn l.prog w K mg base 24 "to_least" 2 uv := ⟨⟨_, _, _, W3 F25 T WW H23 H19 H16 H18 H5, W.mg_of X G a25, k25, B25⟩⟩
 have H26 : HasFn l.prog w K mg base 1 "_law_cell_at" 2 zT := ⟨⟨_, _, _, XS F26 T , W.mg_of X G a26, k26, B26⟩⟩
 have H27 : HasFn l.prog w K mg base 1 "_law_mix" 2 xH := ⟨⟨_, _, _, Gj F27 T , W.mg_of X G a27, k27, B27⟩⟩
 have H28 : HasFn l.prog w K mg base 1 "_law_whole" 1 vA := ⟨⟨_, _, _, UV F28 T , W.mg_of X G a28, k28, B28⟩⟩
 have H29 : HasFn l.prog w K mg base 2 "_law_house" 2 vC := ⟨⟨_, _, _, UY F29 T H26 H27, W.mg_of X G a29, k29, B29⟩⟩
 have H30 : HasFn l.prog w K mg base 2 "_law_word" 4 vM := ⟨⟨_, _, _, Jq F30 T H26 H27, W.mg_of X G a30, k30, B30⟩⟩
 have H31 : HasFn l.prog w K mg base 1 "_law_plus" 2 w8 := ⟨⟨_, _, _, Jt F31 T , W.mg_of X G a31, k31, B31⟩⟩
 have H32 : HasFn l.prog w K mg base 1 "_law_times" 2 vB := ⟨⟨_, _, _, UW F32 T , W.mg_of X G a32, k32, B32⟩⟩
 have H33 : HasFn l.prog w K mg base 1 "_law_sign" 1 y7 := ⟨⟨_, _, _, Jr F33 T , W.mg_of X G a33, k33, B33⟩⟩
 have H34 : HasFn l.prog w K mg base 1 "_law_pull" 3 vN := ⟨⟨_, _, _, Js F34 T , W.mg_of X G a34, k34, B34⟩⟩
 have H35 : HasFn l.prog w K mg base 2 "_law_led" 3 xI := ⟨⟨_, _, _, Gk F35 T H31 H34 H32, W.mg_of X G a35, k35, B35⟩⟩
 have H36 : HasFn l.prog w K mg base 1 "_law_simple" 2 yt := ⟨⟨_, _, _, W6 F36 T , W.mg_of X G a36, k36, B36⟩⟩
 have H37 : HasFn l.prog w K mg base 3 "_law_images" 2 wo := ⟨⟨_, _, _, W7 F37 T H35 H36, W.mg_of X G a37, k37, B37⟩⟩
 have H38 : HasFn l.prog w K mg base 2 "_law_below" 1 xy := ⟨⟨_, _, _, UZ F38 T H33, W.mg_of X G a38, k38, B38⟩⟩
 have H39 : HasFn l.prog w K mg base 3 "_law_is_short" 2 xR := ⟨⟨_, _, _, YW F39 T H38 H35 H36, W.mg_of X G a39, k39, B39⟩⟩
 have H40 : HasFn l.prog w K mg base 1 "_law_m" 3 X9 := ⟨⟨_, _, _, Du F40 T , W.mg_of X G a40, k40, B40⟩⟩
 have H41 : HasFn l.prog w K mg base 2 "_law_moved" 3 yE := ⟨⟨_, _, _, UX F41 T H40, W.mg_of X G a41, k41, B41⟩⟩
 have H42 : HasFn l.prog w K mg base 3 "_law_walked" 3 wm := ⟨⟨_, _, _, W5 F42 T H41 H28, W.mg_of X G a42, k42, B42⟩⟩
 exact Dt F43 T H38 H26 H29 H37 H39 H35 H36 H42 H30 H18 H25 H24
open GH
theorem Cy {a b : Int} (h1 : -3 <= a) (h2 : a <= 3) : wJ (.int a) (.int b) = some (.int (a * b)) := xg (vV (by omega) (by omega))
theorem szl {n : Nat} (h : n <= 100) : n <= sizeLine := g2t (ua (by omega))
theorem ix0 {x : D} {l : List D} : ixD (.tup (x :: l)) (.int 0) = some x := by simp [ixD, atI, ixN]
theorem ix1 {x y : D} {l : List D} : ixD (.tup (x :: y :: l)) (.int 1) = some y := by
 have h := uJ (xs := x :: y :: l) (j := 1) (v := y) rfl
 exact h
theorem YR (x y : Gd) : uQ [gD x, gD y] = some (gD (yD x y)) := by simp [uQ, Kw, gD, ix0, ix1, yD, sizeLine_eq]
theorem Zr (x : Gd) : wQ [gD x] = some (gD (yL x)) := by simp [wQ, VB, gD, ix0, ix1, yL, sizeLine_eq]
theorem Xw {x : Gd} (y : Gd) (h : -3 <= x.1 /\ x.1 <= 2 /\ -1 <= x.2 /\ x.2 <= 0) : vz [gD x, gD y] = some (gD (yM x y)) := by
 have m1 := fun b => @Cy x.1 b (by omega) (by omega)
 have m2 := fun b => @Cy x.2 b (by omega) (by omega)
 simp [vz, VA, gD, ix0, ix1, yM, m1, m2, sizeLine_eq]
theorem Xv (h : D) (i j a b : Int) : ∀ (ts : List T3) (s1 s2 s3 : Slot), ∃ o, yK (ZT 3 (yU (zJ 5) (yU (zJ 6) (yU (zJ 7) Yf)))) (ifS (Vx (blF (zc eqF (vF 5) (vF 3))) (blF (zc eqF (vF 6) (vF 4)))) (yv (vF 7)) nxF) (ts.map tD)
  [.fr h, .fr (.int i), .fr (.int j), .fr (.int (mlo i j)), .fr (.int (mhi i j)), s1, s2, s3] = some o /\ Qq ((some o).bind fun o => match o with | .nx ρ' => yv (cF (.int 2)) ρ' | o => some o) = some (.int (yJ ts i j))
 | [], s1, s2, s3 => ⟨_, rfl, rfl⟩
 | t :: ts, s1, s2, s3 => by
  obtain ⟨o, h1, h2⟩ := Xv h i j a b ts (.fr (.int t.1)) (.fr (.int t.2.1)) (.fr (.int t.2.2))
  rw [g0f]
  unfold yK yJ
  by_cases c1 : t.1 = mlo i j
  ·by_cases c2 : t.2.1 = mhi i j
   ·exact ⟨.rt (.int t.2.2), by simp [tD, c1, c2], by simp [c1, c2]⟩
   ·refine ⟨o, ?_, by simpa [c2] using h2⟩
    simp [tD, c1, c2] at h1 ⊢
    exact h1
  ·refine ⟨o, ?_, by simpa [c1] using h2⟩
   simp [tD, c1] at h1 ⊢
   exact h1
theorem Yv (n : Nat) (ts : List T3) (i j : Int) : zC [zj n ts, .int i, .int j] = some (.int (yJ ts i j)) := by
 obtain ⟨o, h1, h2⟩ := Xv (zj n ts) i j 0 0 ts .no .no .no
 have e : ixD (zj n ts) (.int 1) = some (.lst (ts.map tD)) := by unfold zj; exact ix1
 simp [zC, ZM, e, g0g] at h2 ⊢
 unfold mlo mhi at h1
 simp at h1
 rw [h1]
 exact h2
theorem Qr (m : Int) : inD false (.int m) (.tup [.int 4, .int 6]) = some (.bl (decide (m = 4 \/ m = 6))) := by
 simp [inD, uV, dep, eqD]
 by_cases h : m = 4
 ·subst h; rfl
 ·by_cases h' : m = 6
  ·subst h'; rfl
  ·have a : (4 == m) = false := by simpa using fun z : (4 : Int) = m => h z.symm
   have b : (6 == m) = false := by simpa using fun z : (6 : Int) = m => h' z.symm
   simp [a, b, h, h']
theorem VR (n : Nat) {ts : List T3} (hg : yw ts) (i j : Int) : xi [zj n ts, .int i, .int j] = some (gD (qP ts i j)) := by
 have t := Yv n ts i j
 have gt := v7 hg i j
 unfold qP
 by_cases h : i = j
 ·simp [xi, vI, h, sizeLine_eq, gD]
 ·generalize yJ ts i j = m at t gt
  have mv := Zr
  have cs : m = 0 \/ m = 2 \/ m = 3 \/ m = 4 \/ m = 5 \/ m = 6 := by omega
  by_cases h2 : j < i
  ·have h3 : ¬ i < j := by omega
   rcases cs with e | e | e | e | e | e <;> subst e
   ·have := mv (2, 0); simp [gD, yL] at this; simp [xi, vI, h, h2, h3, t, Qr, sizeLine_eq, jR, g1y, zI, this, gD]
   ·have := mv (0, 0); simp [gD, yL] at this; simp [xi, vI, h, h2, h3, t, Qr, sizeLine_eq, jR, g1y, zI, this, gD]
   ·have := mv (1, 0); simp [gD, yL] at this; simp [xi, vI, h, h2, h3, t, Qr, sizeLine_eq, jR, g1y, zI, this, gD]
   ·simp [xi, vI, h, h2, h3, t, Qr, sizeLine_eq, zI, gD]
   ·have := mv (0, 1); simp [gD, yL] at this; simp [xi, vI, h, h2, h3, t, Qr, sizeLine_eq, jR, g1y, zI, this, gD]
   ·simp [xi, vI, h, h2, h3, t, Qr, sizeLine_eq, zI, gD]
  ·have h3 : i < j := by omega
   rcases cs with e | e | e | e | e | e <;> subst e
   ·have := mv (2, 0); simp [gD, yL] at this; simp [xi, vI, h, h2, h3, t, Qr, sizeLine_eq, jR, g1y, zI, this, gD]
   ·have := mv (0, 0); simp [gD, yL] at this; simp [xi, vI, h, h2, h3, t, Qr, sizeLine_eq, jR, g1y, zI, this, gD]
   ·have := mv (1, 0); simp [gD, yL] at this; simp [xi, vI, h, h2, h3, t, Qr, sizeLine_eq, jR, g1y, zI, this, gD]
   ·have := mv (2, 0); simp [gD, yL] at this; simp [xi, vI, h, h2, h3, t, Qr, sizeLine_eq, jR, g1y, zI, this, gD]
   ·have := mv (0, 1); simp [gD, yL] at this; simp [xi, vI, h, h2, h3, t, Qr, sizeLine_eq, jR, g1y, zI, this, gD]
   ·have := mv (3, 0); simp [gD, yL] at this; simp [xi, vI, h, h2, h3, t, Qr, sizeLine_eq, jR, g1y, zI, this, gD]
theorem kP {α : Type} (xs : List α) (k : Nat) : jC xs none (some (k : Int)) = xs.take k := by
 unfold jC
 rw [HT.sIx_none, HT.sIx_nat, List.drop_zero, Nat.sub_zero]
 by_cases h : k <= xs.length
 ·rw [g2p h]
 ·rw [g3a (by omega), g2d (g0r _), g2d (by omega)]
theorem kQ {α : Type} (xs : List α) (k : Nat) : jC xs (some (k : Int)) none = xs.drop k := by
 unfold jC
 rw [HT.sIx_none, HT.sIx_nat]
 by_cases h : k <= xs.length
 ·rw [g2p h, g2d (by simp)]
 ·rw [g3a (by omega), g1z (g0r _), g1z (by omega)]; simp
def ZA : Nat -> List D -> List D
 | _, [] => []
 | k, d :: ds => .tup [.int (k : Int), d] :: ZA (k + 1) ds
theorem Y7 (ds : List D) : wR ds = ZA 0 ds := by
 have gen : ∀ (ds : List D) (k : Nat), (ds.zipIdx k).map (fun p => D.tup [.int (p.2 : Int), p.1]) = ZA k ds := by
  intro ds
  induction ds with
  | nil => intro k; rfl
  | cons d ds ih => intro k; rw [List.zipIdx_cons, g0f, ih]; rfl
 exact gen ds 0
theorem Wy {ds : List D} {i : Nat} {d : D} (h : ds[i]? = some d) : ixD (.tup ds) (.int (i : Int)) = some d := uJ h
theorem Kr {ds : List D} {i : Nat} {d : D} (h : ds[i]? = some d) : ixD (.lst ds) (.int (i : Int)) = some d := uJ h
theorem Q3 {r : List Gd} {i : Nat} (h : i < r.length) : ixD (xu r) (.int (i : Int)) = some (gD (r.getD i (0, 0))) := by
 unfold xu
 apply Wy
 simp [g0k, h]
theorem Z5 {r : List Gd} {i : Nat} (x : Gd) (h : i < r.length) : (r.map gD).take i ++ gD x :: (r.map gD).drop (i + 1) = (r.set i x).map gD := by
 rw [List.map_set]
 apply g2o
 intro k
 rcases Nat.lt_trichotomy k i with hk | hk | hk
 ·rw [g1h (by simp; omega), g1b, if_neg (by omega), List.getElem?_take_of_lt hk]
 ·subst hk
  rw [g1a (by simp; omega)]
  simp [h, g2p (g2t h)]
 ·rw [g1a (by simp; omega), g1b, if_neg (by omega)]
  have : k - (List.take i (List.map gD r)).length = (k - i - 1) + 1 := by simp; omega
  rw [this, g0c, List.getElem?_drop]
  congr 1
  omega
noncomputable def Fw : FS := xb 3 (zO uQ (zb (vF 3) (zb (zO vz (zb (zO xi (zb (vF 0) (zb (vF 1) (zb (vF 4) zu)))) (zb (vF 5) zu))) zu)))
theorem V7 (n : Nat) {ts : List T3} (hg : yw ts) (i : Nat) (R : D) : ∀ (r : List Gd) (k : Nat) (acc : Gd) (s4 s5 : Slot), ∃ s4' s5', yK (ZT 2 (yU (zJ 4) (yU (zJ 5) Yf))) Fw (ZA k (r.map gD)) [.fr (zj n ts), .fr (.int i), .fr R, .fr (gD acc), s4, s5] =
  some (.nx [.fr (zj n ts), .fr (.int i), .fr R, .fr (gD (y9 (zf ts i) k r acc)), s4', s5'])
 | [], k, acc, s4, s5 => ⟨s4, s5, rfl⟩
 | x :: r, k, acc, s4, s5 => by
  obtain ⟨s4', s5', e⟩ := V7 n hg i R r (k + 1) (yD acc (yM (zf ts i k) x)) (.fr (.int k)) (.fr (gD x))
  refine ⟨s4', s5', ?_⟩
  have p := VR n hg (i : Int) (k : Int)
  have m := Xw x (uF ts i k)
  have a := YR acc (yM (qP ts i k) x)
  rw [g0f]
  unfold ZA yK
  simp [Fw, p, m, a]
  unfold Fw at e
  exact e
theorem XY (n : Nat) {ts : List T3} (hg : yw ts) {i : Nat} {r : List Gd} (hi : i < r.length) (hr : r.length <= 100) : wj [zj n ts, .int i, xu r] = some (xu (wX (zf ts i) i r)) := by
 obtain ⟨s4', s5', e⟩ := V7 n hg i (xu r) r 0 (0, 0) .no .no
 have mi := Zr (y9 (zf ts i) 0 r (0, 0))
 have pl := YR (r.getD i (0, 0)) (yL (y9 (zf ts i) 0 r (0, 0)))
 have ra := Q3 hi
 have z1 : i <= sizeLine := szl (by omega)
 have e0 : gD (0, 0) = .tup [.int 0, .int 0] := rfl
 rw [e0, <- Y7] at e
 have sl := Z5 (yD (r.getD i (0, 0)) (yL (y9 (zf ts i) 0 r (0, 0)))) hi
 have s1 : ym (vF 2) noP (exP (vF 1)) [.fr (zj n ts), .fr (.int i), .fr (xu r), .fr (gD (y9 (zf ts i) 0 r (0, 0))), s4', s5'] = some (.tup ((r.map gD).take i)) := by
  simp [xu, kP]
 have s2 : ym (vF 2) (exP (zc yV (vF 1) (cF (.int 1)))) noP [.fr (zj n ts), .fr (.int i), .fr (xu r), .fr (gD (y9 (zf ts i) 0 r (0, 0))), s4', s5'] = some (.tup ((r.map gD).drop (i + 1))) := by
  have := kQ (r.map gD) (i + 1)
  simp [xu] at this ⊢
  exact this
 have it : qd (vF 2) [.fr (zj n ts), .fr (.int i), .fr (xu r), .fr (.tup [.int 0, .int 0]), .no, .no] = some (wR (r.map gD)) := by simp [xu]
 have a1 : ∀ x, yV (.tup ((r.map gD).take i)) (.tup [x]) = some (.tup ((r.map gD).take i ++ [x])) := fun x => by
  show (if _ then _ else _) = _
  rw [if_pos (szl (by simp; omega))]
 have a2 : ∀ x, yV (.tup ((r.map gD).take i ++ [x])) (.tup ((r.map gD).drop (i + 1))) = some (.tup ((r.map gD).take i ++ [x] ++ (r.map gD).drop (i + 1))) := fun x => by
  show (if _ then _ else _) = _
  rw [if_pos (szl (by simp; omega))]
 unfold wj j7
 simp only [zP, zt, g0f, g0o, g0d, g0e, g0g, g0p, g0n, zN, yj, xc, g0a, g0j, g0h, xv, it]
 unfold Fw at e
 rw [e]
 simp only [g0a, zR, zp, s1, s2, x6, zm, zv, zD, yk, g0b, g0c, ra, mi, pl, g0d, g0e]
 rw [if_pos (szl (by decide))]
 simp only [g0a, a1, a2, z9]
 unfold xu wX
 rw [<- sl, g0x]
 rfl
theorem UE (n : Nat) (ts : List T3) (i : Nat) (hn : n <= 100) : vL [zj n ts, .int i] = some (xu (ye n i)) := by
 have e : ixD (zj n ts) (.int 0) = some (.int n) := by unfold zj; exact ix0
 have ra : wV [.int (n : Int)] = some (zY 0 n) := y8 (by omega) (by omega)
 have c := Qj (f := ifF (blF (zc eqF (vF 0) (vF 1))) (cF (.tup [(.int 1), (.int 0)])) (cF (.tup [(.int 0), (.int 0)]))) (C := [.fr (.int (i : Int))]) (φ := fun j => gD (if j = i then (1, 0) else (0, 0))) (zY 0 n) 0 .no (fun k d hk => by
  obtain ⟨rfl, _⟩ := qC hk
  by_cases h : k = i
  ·simp [h, gD]
  ·have : ¬ (k : Int) = (i : Int) := by omega
   simp [h, this, gD])
 have hz : n <= sizeLine := szl (by omega)
 have hl : (zY 0 (n : Int)).length = n := by rw [w5]; omega
 simp only [hl, g1t] at c
 unfold vL Xk
 simp only [zP, zt, g0f, g0o, g0d, g0e, g0g, g0p, g0n, zR, zD, zm, xX, Q0, ue, zp, yk, xc, g0b, g0c, g0a, e, zv, ra, hl, if_pos hz, HZ, CW, c, g1o, QW, z9]
 simp only [xu, ye, g1n]
 rfl
def wx (ns : List Int) (k : Nat) : Int := ns.getD k 0
theorem jx (ns : List Int) (k : Nat) (hl : ns.length <= 63) : zT [.lst (ns.map D.int), .int k] = some (.int (wx ns k)) := by
 unfold wx
 by_cases h : k < ns.length
 ·have e : ixD (.lst (ns.map D.int)) (.int (k : Int)) = some (.int (ns.getD k 0)) := Kr (by simp [g0k, h])
  have h' : (k : Int) < (ns.length : Int) := by omega
  simp [zT, uK, h', e]
 ·have h' : ¬ ((k : Int) < (ns.length : Int)) := by omega
  simp [zT, uK, h', g0k, g1d (g3d.mp h)]
theorem eq2 (a b c d : Int) : eqF (.tup [.int a, .int b]) (.tup [.int c, .int d]) = some (.bl (decide (a = c /\ b = d))) := by
 simp [eqF, dep, uV, eqD, Xp]
 by_cases h : a = c <;> by_cases h' : b = d <;> simp [h, h']
def zq (w : List Nat) : D := .tup (w.map fun (i : Nat) => .int (i : Int))
theorem xF {k n : Nat} (h : k < n) : zY (k : Int) (n : Int) = .int (k : Int) :: zY ((k + 1 : Nat) : Int) (n : Int) := by
 unfold zY
 have e1 : ((n : Int) - (k : Int)).toNat = ((n : Int) - ((k + 1 : Nat) : Int)).toNat + 1 := by omega
 rw [e1, g2c, g0f, g1n]
 refine congr (congrArg List.cons (by simp)) ?_
 apply g2g
 intro a _
 simp only [Function.comp]
 congr 1
 omega
theorem wg {k n : Nat} (h : n <= k) : zY (k : Int) (n : Int) = [] := by
 unfold zY
 have e1 : ((n : Int) - (k : Int)).toNat = 0 := by omega
 rw [e1]
 rfl
theorem Qx (i : Int) : vA [.int i] = some (.bl true) := by simp [vA, ZO, WQ, tyN]
theorem X1 (x y : Gd) : w8 [gD x, gD y] = some (gD (yD x y)) := by simp [w8, Xl, gD, ix0, ix1, yD, sizeLine_eq]
theorem U5 {x : Gd} (y : Gd) (h : -3 <= x.1 /\ x.1 <= 2 /\ -1 <= x.2 /\ x.2 <= 0) : vB [gD x, gD y] = some (gD (yM x y)) := by
 have m1 := fun b => @Cy x.1 b (by omega) (by omega)
 have m2 := fun b => @Cy x.2 b (by omega) (by omega)
 simp [vB, ZP, gD, ix0, ix1, yM, m1, m2, sizeLine_eq]
theorem U7 {ts : List T3} (hg : yw ts) (h : D) (i j : Int) (hij : i ≠ j) : ∀ (s1 s2 s3 : Slot), ∃ o, yK (ZT 3 (yU (zJ 3) (yU (zJ 4) (yU (zJ 5) Yf))))
  (ifS (blF (zc eqF (tupF (zb (vF 3) (zb (vF 4) zu))) (tupF (zb (zO Hu (zb (vF 1) (zb (vF 2) zu))) (zb (zO Hv (zb (vF 1) (zb (vF 2) zu))) zu)))))
   (yh (ifS (blF (zc eqF (vF 5) (cF (.int 5)))) (yv (tupF (zb (cF (.int 0)) (zb (y0 qJ (cF (.int 1))) zu)))) nxF) (yh (ifS (blF (zc eqF (vF 5) (cF (.int 0)))) (yv (tupF (zb (y0 qJ (cF (.int 2))) (zb (cF (.int 0)) zu)))) nxF)
    (yv (tupF (zb (ifF (blF (zc ltD (vF 1) (vF 2))) (zc ixD (yI (Yi (zb (y0 qJ (cF (.int 1))) (zb (y0 qJ (cF (.int 2))) (zb (cF (.int 0)) (zb (y0 qJ (cF (.int 3))) zu)))))) (zc Ky (vF 5) (cF (.int 3)))) (y0 qJ (cF (.int 1)))) (zb (cF (.int 0)) zu)))))) nxF)
  (ts.map tD) [.fr h, .fr (.int i), .fr (.int j), s1, s2, s3] = some o /\ Qq ((some o).bind fun o => match o with | .nx ρ' => yv (tupF (zb (cF (.int 0)) (zb (cF (.int 0)) zu))) ρ' | o => some o) = some (gD (zI (yJ ts i j) (decide (i < j)))) := by
 induction ts with
 | nil => intro s1 s2 s3; exact ⟨_, rfl, by simp [yJ, zI, gD, sizeLine_eq]⟩
 | cons t ts ih =>
  intro s1 s2 s3
  obtain ⟨o, h1, h2⟩ := ih (fun t ht => hg t (g0m _ ht)) (.fr (.int t.1)) (.fr (.int t.2.1)) (.fr (.int t.2.2))
  have ht := hg t g0s
  rw [g0f]
  unfold yK yJ
  by_cases c : t.1 = mlo i j /\ t.2.1 = mhi i j
  ·obtain ⟨t1, t2, m⟩ := t
   obtain ⟨c1, c2⟩ := c
   simp only at c1 c2 ht
   have cs : m = 0 \/ m = 3 \/ m = 4 \/ m = 5 \/ m = 6 := by omega
   refine ⟨.rt (gD (zI m (decide (i < j)))), ?_, by simp [c1, c2]⟩
   have e := eq2 t1 t2 (if j < i then j else i) (if j > i then j else i)
   have e1 : (if j < i then j else i) = t1 := by rw [c1]; rfl
   have e2 : (if j > i then j else i) = t2 := by rw [c2]; rfl
   have e3 : (if i < j then j else i) = t2 := e2
   have e0 : eqF (.tup [.int t1, .int t2]) (.tup [.int t1, .int t2]) = some (.bl true) := by rw [eq2]; simp
   by_cases hl : i < j
   ·rcases cs with c | c | c | c | c <;> subst c <;> simp only [tD, ji, uE, yu, jj, g0d, g0e, Nat.reduceAdd, if_true, g0j, g0h, g0a, yH, yn, zp, x6, zm, zv, yk, g0c, g0b, zD, KS, KU, e1, e2, if_pos (szl (n := 2) (by decide)), e0] <;> simp [sizeLine_eq, hl, zI, gD, ixD, atI, ixN]
   ·rcases cs with c | c | c | c | c <;> subst c <;> simp only [tD, ji, uE, yu, jj, g0d, g0e, Nat.reduceAdd, if_true, g0j, g0h, g0a, yH, yn, zp, x6, zm, zv, yk, g0c, g0b, zD, KS, KU, e1, e2, if_pos (szl (n := 2) (by decide)), e0] <;> simp [sizeLine_eq, hl, zI, gD, ixD, atI, ixN]
  ·have e : eqF (.tup [.int t.1, .int t.2.1]) (.tup [.int (if j < i then j else i), .int (if i < j then j else i)]) = some (.bl false) := by
    rw [eq2]
    have : ¬ (t.1 = (if j < i then j else i) /\ t.2.1 = (if i < j then j else i)) := c
    simp only [this, decide_false]
   refine ⟨o, ?_, by simpa [c] using h2⟩
   simp [tD, sizeLine_eq, e] at h1 ⊢
   exact h1
theorem JH (n : Nat) {ts : List T3} (hg : yw ts) (i j : Int) : vN [zj n ts, .int i, .int j] = some (gD (qP ts i j)) := by
 unfold qP
 by_cases h : i = j
 ·simp [vN, kU, h, sizeLine_eq, gD]
 ·obtain ⟨o, h1, h2⟩ := U7 hg (zj n ts) i j h .no .no .no
  have e : ixD (zj n ts) (.int 1) = some (.lst (ts.map tD)) := by unfold zj; exact ix1
  unfold vN kU
  simp only [zP, zt, g0f, g0o, g0d, g0e, Nat.reduceAdd, Nat.reduceSub, g0g, g0p, g0n, zN, yH, yn, zp, yk, xc, g0b, g0c, g0a, uo, h, decide_false, g0l, if_false, x8, xv, yB, e, XD]
  rw [h1]
  exact h2
noncomputable def DB : FS := xb 4 (zO w8 (zb (vF 4) (zb (zO vB (zb (zO vN (zb (vF 0) (zb (vF 3) (zb (vF 5) zu)))) (zb (zc ixD (vF 2) (vF 5)) zu))) zu)))
theorem X2 (n : Nat) {ts : List T3} (hg : yw ts) (i : Nat) (W : D) {r : List Gd} (hr : r.length = n) : ∀ (m k : Nat) (acc : Gd) (s5 : Slot), k + m = n -> ∃ s5', yK (zJ 5) DB (zY (k : Int) (n : Int)) [.fr (zj n ts), .fr W, .fr (xu r), .fr (.int i), .fr (gD acc), s5] =
  some (.nx [.fr (zj n ts), .fr W, .fr (xu r), .fr (.int i), .fr (gD (y9 (zf ts i) k (r.drop k) acc)), s5'])
 | 0, k, acc, s5, h => by
  rw [wg (by omega), g1z (by omega)]
  exact ⟨s5, rfl⟩
 | m + 1, k, acc, s5, h => by
  have hk : k < r.length := by omega
  have p := JH n hg (i : Int) (k : Int)
  have mm := U5 (r.getD k (0, 0)) (uF ts i k)
  have a := X1 acc (yM (qP ts i k) (r.getD k (0, 0)))
  have ra := Q3 hk
  obtain ⟨s5', e⟩ := X2 n hg i W hr m (k + 1) (yD acc (yM (zf ts i k) (r.getD k (0, 0)))) (.fr (.int k)) (by omega)
  refine ⟨s5', ?_⟩
  rw [xF (by omega)]
  have hd : r.drop k = r.getD k (0, 0) :: r.drop (k + 1) := by
   rw [g1f hk]
   simp [g0k, hk]
  rw [hd]
  unfold yK DB
  simp only [yu, g0a, g0j, g0h, yj, zD, zm, zv, yk, g0c, g0b, zp, p, mm, a, ra]
  unfold DB at e
  exact e
noncomputable def Fx : FS := (yh (xb 4 (tupF (zb (cF (.int 0)) (zb (cF (.int 0)) zu)))) (yh (kF (YO (zb (zc ixD (vF 0) (cF (.int 0))) zu)) (zJ 5) DB) (xb 2 (zc yV (zc yV (ym (vF 2) noP (exP (vF 3))) (tupF (zb (zO w8 (zb (zc ixD (vF 2) (vF 3)) (zb (tupF (zb (y0 qJ (zc ixD (vF 4) (cF (.int 0)))) (zb (y0 qJ (zc ixD (vF 4) (cF (.int 1)))) zu))) zu))) zu))) (ym (vF 2) (exP (zc yV (vF 3) (cF (.int 1)))) noP)))))
theorem Gw (n : Nat) {ts : List T3} (hg : yw ts) {i : Nat} (W : D) {r : List Gd} (hr : r.length = n) (hi : i < n) (hn : n <= 100) (s4 s5 : Slot) : ∃ s4' s5', Fx [.fr (zj n ts), .fr W, .fr (xu r), .fr (.int i), s4, s5] =
  some (.nx [.fr (zj n ts), .fr W, .fr (xu (wX (zf ts i) i r)), .fr (.int i), s4', s5']) := by
 obtain ⟨s5', e⟩ := X2 n hg i W hr n 0 (0, 0) s5 (by omega)
 rw [List.drop_zero] at e
 have hi' : i < r.length := by omega
 generalize hS : y9 (zf ts i) 0 r (0, 0) = S at e
 have pl := X1 (r.getD i (0, 0)) (yL S)
 have ra := Q3 hi'
 have sl := Z5 (yD (r.getD i (0, 0)) (yL S)) hi'
 have c1 := kP (r.map gD) i
 have c2 := kQ (r.map gD) (i + 1)
 have en : ixD (zj n ts) (.int 0) = some (.int n) := by unfold zj; exact ix0
 have rg : wV [.int (n : Int)] = some (zY ((0 : Nat) : Int) (n : Int)) := y8 (by omega) (by omega)
 have a1 : ∀ x, yV (.tup ((r.map gD).take i)) (.tup [x]) = some (.tup ((r.map gD).take i ++ [x])) := fun x => by
  show (if _ then _ else _) = _
  rw [if_pos (szl (by simp; omega))]
 have a2 : ∀ x, yV (.tup ((r.map gD).take i ++ [x])) (.tup ((r.map gD).drop (i + 1))) = some (.tup ((r.map gD).take i ++ [x] ++ (r.map gD).drop (i + 1))) := fun x => by
  show (if _ then _ else _) = _
  rw [if_pos (szl (by simp; omega))]
 have z2 : 0 + 1 + 1 <= sizeLine := szl (by decide)
 have z1 : 0 + 1 <= sizeLine := szl (by decide)
 have i0 : ixD (gD S) (.int 0) = some (.int S.1) := ix0
 have i1 : ixD (gD S) (.int 1) = some (.int S.2) := ix1
 have e0 : D.tup [.int 0, .int 0] = gD (0, 0) := rfl
 have e1 : D.tup [.int (-S.1), .int (-S.2)] = gD (yL S) := rfl
 have e2 : ((i : Int) + 1) = ((i + 1 : Nat) : Int) := by omega
 refine ⟨.fr (gD S), s5', ?_⟩
 unfold Fx
 simp only [zN, yj, x6, zm, xc, zv, g0a, g0d, g0e, if_pos z2, g0j, g0h, xv, ue, zp, yk, g0b, g0c, en, rg, e0]
 rw [e]
 simp only [g0a, yj, zp, w4, yk, g0b, g0c, XE, YM, xu, x6, zm, zD, zv, uY, xc, i0, i1, WV, g0d, g0e, if_pos z2, e1, qG, e2, c1, c2]
 unfold xu at ra
 simp only [ra, pl, g0a, g0d, g0e, if_pos z1, a1, a2, g0j, g0h, wX, hS]
 rw [<- sl, g0x]
 rfl
theorem Ua (n : Nat) {ts : List T3} (hg : yw ts) (W : D) (hn : n <= 100) : ∀ (l : List Nat) (r : List Gd) (s3 s4 s5 : Slot), r.length = n -> (∀ i ∈ l, i < n) -> ∃ s3' s4' s5', yK (zJ 3) Fx (l.map fun (i : Nat) => .int (i : Int)) [.fr (zj n ts), .fr W, .fr (xu r), s3, s4, s5] =
  some (.nx [.fr (zj n ts), .fr W, .fr (xu (l.foldl (fun r i => wX (zf ts i) i r) r)), s3', s4', s5'])
 | [], r, s3, s4, s5, hr, hl => ⟨s3, s4, s5, rfl⟩
 | i :: l, r, s3, s4, s5, hr, hl => by
  obtain ⟨s4', s5', e⟩ := Gw n hg W hr (hl i g0s) hn s4 s5
  obtain ⟨t3, t4, t5, e'⟩ := Ua n hg W hn l (wX (zf ts i) i r) (.fr (.int i)) s4' s5' (by rw [z7, hr]) (fun j hj => hl j (g0m _ hj))
  refine ⟨t3, t4, t5, ?_⟩
  rw [g0f]
  unfold yK
  simp only [yu, g0a, g0j, g0h, e]
  exact e'
theorem JK (n : Nat) {ts : List T3} (hg : yw ts) {w : List Nat} {r : List Gd} (hn : n <= 100) (hr : r.length = n) (hw : ∀ i ∈ w, i < n) : xI [zj n ts, zq w, xu r] = some (xu (yd (zf ts) w r)) := by
 obtain ⟨t3, t4, t5, e⟩ := Ua n hg (zq w) hn w.reverse r .no .no .no hr (fun i hi => hw i (by simpa using hi))
 have er : (w.map fun (i : Nat) => D.int (i : Int)).reverse = w.reverse.map fun (i : Nat) => D.int (i : Int) := by simp
 unfold xI VD
 simp only [zP, zt, g0f, g0o, g0d, g0e, Nat.reduceAdd, Nat.reduceSub, g0g, g0p, g0n, zN, xv, yB, Ha, yk, g0b, g0c, g0a, uY, xc, WV, zq, if_true, QY, er]
 unfold Fx DB zq at e
 rw [e]
 simp only [g0a, zR, yk, g0b, g0c, z9, yd, List.foldl_reverse]
theorem qR (n : Nat) (ts : List T3) (i : Nat) (hn : n <= 100) : yt [zj n ts, .int i] = some (xu (ye n i)) := by
 have e : ixD (zj n ts) (.int 0) = some (.int n) := by unfold zj; exact ix0
 have ra : wV [.int (n : Int)] = some (zY 0 n) := y8 (by omega) (by omega)
 have c := Qj (f := tupF (zb (zO Vj (zb (zc eqF (vF 1) (vF 0)) zu)) (zb (cF (.int 0)) zu))) (C := [.fr (.int (i : Int))]) (φ := fun j => gD (if j = i then (1, 0) else (0, 0))) (zY 0 n) 0 .no (fun k d hk => by
  obtain ⟨rfl, _⟩ := qC hk
  by_cases h : k = i
  ·simp [h, gD, sizeLine_eq]
  ·have : ¬ (i : Int) = (k : Int) := by omega
   simp [h, this, gD, sizeLine_eq])
 have hl : (zY 0 (n : Int)).length = n := by rw [w5]; omega
 have hz : (zY 0 (n : Int)).length <= sizeLine := by rw [hl]; exact szl (by omega)
 have hi : YO (zb (zc ixD (vF 0) (cF (.int 0))) zu) [.fr (zj n ts), .fr (.int i)] = some (zY 0 n) := by
  simp only [ue, zm, zp, yk, g0b, xc, g0a, e, zv, ra]
 have hc := w9 (n := 1) (caps := [1]) (γ := zJ 0) (ft := ttF) (f := tupF (zb (zO Vj (zb (zc eqF (vF 1) (vF 0)) zu)) (zb (cF (.int 0)) zu))) hi hz
 have cs : vY 1 [1] [.fr (zj n ts), .fr (.int i)] = [.no, .fr (.int i)] := rfl
 rw [cs, c, hl] at hc
 simp only [yt, j9, zP, zt, g0f, g0o, g0d, g0e, Nat.reduceAdd, Nat.reduceSub, g0g, g0t, zR, zD, zm, xX, hc, zv, g0a, g1o, QW, z9, g1t]
 simp only [xu, ye, g1n, Function.comp_def]
theorem V6 (k : Int) (s3 : Slot) : ∀ (l : List D) (c : Int) (s2 : Slot), ∃ (c' : Int) (s2' : Slot), yK (zJ 2) (xb 0 (zc qU (vF 0) (cF (.int 2147483648)))) l [.fr (.int c), .fr (.int k), s2, s3] = some (.nx [.fr (.int c'), .fr (.int k), s2', s3])
 | [], c, s2 => ⟨c, s2, rfl⟩
 | d :: l, c, s2 => by
  obtain ⟨c', s2', e⟩ := V6 k s3 l (c / 2147483648) (.fr d)
  refine ⟨c', s2', ?_⟩
  have f := vP (i := c) (show (0 : Int) < 2147483648 by decide) (by decide)
  unfold yK
  simp only [yu, g0a, g0j, g0h, yj, zp, yk, xc, g0b, g0c, f]
  exact e
theorem Y0 (c : Int) (k : Nat) (hk : k <= 1000) : ∃ z : Int, 0 <= z /\ z < 2147483648 /\ xH [.int c, .int k] = some (.int z) := by
 have p12 : Cw (.int 10) (.int 12) = some (.int (10 ^ 12)) := Bh ⟨by decide, by decide, Yh (k := 8) (by decide) (by decide)⟩
 by_cases hc : (10 : Int) ^ 12 <= c
 ·have f12 := vP (i := c) (show (0 : Int) < 10 ^ 12 by decide) (by decide)
  have md := y4 (i := (k : Int)) (show (0 : Int) < 61 by decide)
  have ra : wV [.int ((k : Int) % 61)] = some (zY 0 ((k : Int) % 61)) := y8 (by omega) (by omega)
  obtain ⟨c', s2', e⟩ := V6 (k : Int) .no (zY 0 ((k : Int) % 61)) (c / 10 ^ 12 - 1) .no
  have md2 := y4 (i := c') (show (0 : Int) < 2147483648 by decide)
  refine ⟨c' % 2147483648, by omega, by omega, ?_⟩
  simp only [xH, Xm, zP, zt, g0f, g0o, g0d, g0e, Nat.reduceAdd, Nat.reduceSub, g0g, g0p, g0n, zN, yH, yn, zp, yk, xc, g0b, g0c, g0a, p12, HX, hc, decide_true, if_true, yj, f12, QX, g0h, g0j, xv, ue, zm, zv, md, ra]
  rw [e]
  simp only [g0a, zR, zp, yk, xc, g0b, md2, z9]
 ·have h0 : (0 : Int) <= (k : Int) * k := Int.mul_nonneg (by omega) (by omega)
  have h1 : (k : Int) * k <= 1000 * 1000 := Int.mul_le_mul (by omega) (by omega) (by omega) (by omega)
  have m1 : wJ (.int (k : Int)) (.int (k : Int)) = _ := xg (vV (by omega) (by omega))
  have m2 : wJ (.int ((k : Int) * k)) (.int 7919) = _ := xg (JA (by decide) (by decide))
  have m3 : ∀ x, wJ (.int x) (.int 48271) = _ := fun x => xg (JA (by decide) (by decide))
  have m4 : ∀ x : Int, wJ (.int (x % 2147483629)) (.int (x % 2147483629)) = _ := fun x => xg (vV (by omega) (by omega))
  have m5 : ∀ x y : Int, wJ (.int (x % 2147483587)) (.int y) = _ := fun x y => xg (vV (by omega) (by omega))
  refine ⟨_, ?_, ?_, by simp only [xH, Xm, zP, zt, g0f, g0o, g0d, g0e, Nat.reduceAdd, Nat.reduceSub, g0g, g0p, g0n, zN, yH, yn, zp, yk, xc, g0b, g0c, g0a, p12, HX, hc, decide_false, g0l, if_false, x8, yj, y4 (show (0 : Int) < 1000003 by decide), m1, m2, qG, m3, y4 (show (0 : Int) < 2147483629 by decide), g0j, g0h, zR, m4, y4 (show (0 : Int) < 2147483587 by decide), m5, y4 (show (0 : Int) < 2147483579 by decide), vP (show (0 : Int) < 7 by decide) (by decide), z9]; rfl⟩ <;> omega
def Mok (m : Int) : Prop := m = 0 \/ (2 <= m /\ m <= 6)
def Vy (n : Nat) (ts : List T3) : Prop := ∀ t ∈ ts, (t.2.2 = 0 \/ (3 <= t.2.2 /\ t.2.2 <= 6)) /\ 0 <= t.1 /\ t.1 < t.2.1 /\ t.2.1 < n
theorem Vy.good {n : Nat} {ts : List T3} (h : Vy n ts) : yw ts := fun t ht => (h t ht).1
noncomputable def hB1 : FS := xb 7 (zO xH (zb (zO zT (zb (vF 0) (zb (zc yV (cF (.int 1)) (vF 5)) zu))) (zb (zc yV (zc wJ (cF (.int 10)) (vF 5)) (vF 6)) zu)))
def hB2 : FS := xb 8 (zc ixD (yI (Yi (zb (cF (.int 2)) (zb (cF (.int 3)) (zb (cF (.int 4)) (zb (cF (.int 5)) (zb (cF (.int 6)) (zb (cF (.int 0)) (zb (cF (.int 3)) (zb (cF (.int 2)) zu)))))))))) (zc qQ (vF 7) (cF (.int 8))))
def hB3 : FS := ifS (blF (zc eqF (zc qQ (vF 3) (cF (.int 3))) (cF (.int 1)))) (yh (xb 8 (zc ixD (yI (Yi (zb (cF (.int 2)) (zb (cF (.int 3)) zu)))) (zO Vj (zb (zc eqF (vF 6) (zc yV (vF 5) (cF (.int 1)))) zu)))) (ifS (Vx (blF (zc eqF (vF 6) (zc yV (vF 5) (cF (.int 1))))) (Vx (blF (zc eqF (zc qQ (zc qU (vF 3) (cF (.int 3))) (cF (.int 3))) (cF (.int 1)))) (blF (zc eqF (vF 6) (zc Ky (vF 2) (cF (.int 1))))))) (xb 8 (zc ixD (yI (Yi (zb (cF (.int 4)) (zb (cF (.int 5)) zu)))) (zc qQ (zc qU (vF 3) (cF (.int 9))) (cF (.int 2))))) nxF)) nxF
def hB4 : FS := ifS (Vx (blF (zc eqF (zc qQ (vF 3) (cF (.int 3))) (cF (.int 2)))) (Vx (blF (zc neF (vF 6) (zc yV (vF 5) (cF (.int 1))))) (blF (zc gtD (zc qQ (zc qU (vF 7) (cF (.int 8))) (cF (.int 3))) (cF (.int 0)))))) (xb 8 (cF (.int 2))) nxF
def hB5 : FS := ifS (blF (zc neF (vF 8) (cF (.int 2)))) (qp 4 (tupF (zb (vF 5) (zb (vF 6) (zb (vF 8) zu))))) nxF
noncomputable def JY : FS := yh hB1 (yh hB2 (yh hB3 (yh hB4 hB5)))
section
variable (ns : List Int) (hl : ns.length <= 63) (most kind : Int) (n : Nat) (hn : n <= 6)
abbrev hR (L : List D) (i j : Nat) (s7 s8 : Slot) : Rho := [.fr (.lst (ns.map D.int)), .fr (.int most), .fr (.int n), .fr (.int kind), .ol L, .fr (.int i), .fr (.int j), s7, s8]
include hl hn in
theorem hb1 (L : List D) {i j : Nat} (hi : i <= 6) (hj : j <= 6) (s7 s8 : Slot) : ∃ d : Int, 0 <= d /\ hB1 (hR ns most kind n L i j s7 s8) = some (.nx (hR ns most kind n L i j (.fr (.int d)) s8)) := by
 obtain ⟨z, h0, _, e⟩ := Y0 (wx ns (1 + i)) (10 * i + j) (by omega)
 have ce := jx ns (1 + i) hl
 have e1 : (1 : Int) + (i : Int) = ((1 + i : Nat) : Int) := by omega
 have e2 : (10 : Int) * (i : Int) + (j : Int) = ((10 * i + j : Nat) : Int) := by omega
 refine ⟨z, h0, ?_⟩
 have m1 : wJ (.int 10) (.int (i : Int)) = some (.int (10 * (i : Int))) := xg (vV (by decide) (by decide))
 simp only [hB1, hR, yj, zD, zm, zv, zp, yk, xc, g0b, g0c, g0a, qG, m1, e1, e2, ce, e, g0j, g0h]
theorem hb2 (L : List D) (i j : Nat) {d : Int} (s8 : Slot) : ∃ m, Mok m /\ hB2 (hR ns most kind n L i j (.fr (.int d)) s8) = some (.nx (hR ns most kind n L i j (.fr (.int d)) (.fr (.int m)))) := by
 have md := y4 (i := d) (show (0 : Int) < 8 by decide)
 have cs : d % 8 = 0 \/ d % 8 = 1 \/ d % 8 = 2 \/ d % 8 = 3 \/ d % 8 = 4 \/ d % 8 = 5 \/ d % 8 = 6 \/ d % 8 = 7 := by omega
 unfold Mok
 rcases cs with c | c | c | c | c | c | c | c
 ·exact ⟨2, by decide, by simp [hB2, hR, md, c, sizeLine_eq, ixD, atI, ixN]⟩
 ·exact ⟨3, by decide, by simp [hB2, hR, md, c, sizeLine_eq, ixD, atI, ixN]⟩
 ·exact ⟨4, by decide, by simp [hB2, hR, md, c, sizeLine_eq, ixD, atI, ixN]⟩
 ·exact ⟨5, by decide, by simp [hB2, hR, md, c, sizeLine_eq, ixD, atI, ixN]⟩
 ·exact ⟨6, by decide, by simp [hB2, hR, md, c, sizeLine_eq, ixD, atI, ixN]⟩
 ·exact ⟨0, by decide, by simp [hB2, hR, md, c, sizeLine_eq, ixD, atI, ixN]⟩
 ·exact ⟨3, by decide, by simp [hB2, hR, md, c, sizeLine_eq, ixD, atI, ixN]⟩
 ·exact ⟨2, by decide, by simp [hB2, hR, md, c, sizeLine_eq, ixD, atI, ixN]⟩
theorem hb3 (L : List D) (i j : Nat) (s7 : Slot) {m : Int} (hm : Mok m) : ∃ m', Mok m' /\ hB3 (hR ns most kind n L i j s7 (.fr (.int m))) = some (.nx (hR ns most kind n L i j s7 (.fr (.int m')))) := by
 have md := y4 (i := kind) (show (0 : Int) < 3 by decide)
 have f3 := vP (i := kind) (show (0 : Int) < 3 by decide) (by decide)
 have f9 := vP (i := kind) (show (0 : Int) < 9 by decide) (by decide)
 have md3 := y4 (i := kind / 3) (show (0 : Int) < 3 by decide)
 have md9 := y4 (i := kind / 9) (show (0 : Int) < 2 by decide)
 by_cases c : kind % 3 = 1
 ·by_cases c1 : (j : Int) = (i : Int) + 1
  ·by_cases c2 : kind / 3 % 3 = 1 /\ (j : Int) = (n : Int) - 1
   ·obtain ⟨c2, c3⟩ := c2
    rcases (by omega : kind / 9 % 2 = 0 \/ kind / 9 % 2 = 1) with c4 | c4
    ·refine ⟨4, by unfold Mok; decide, ?_⟩
     have c5 : (i : Int) + 1 = (n : Int) - 1 := by omega
     simp [hB3, hR, md, c, c1, c5, f3, md3, c2, f9, md9, c4, sizeLine_eq, ixD, atI, ixN]
    ·refine ⟨5, by unfold Mok; decide, ?_⟩
     have c5 : (i : Int) + 1 = (n : Int) - 1 := by omega
     simp [hB3, hR, md, c, c1, c5, f3, md3, c2, f9, md9, c4, sizeLine_eq, ixD, atI, ixN]
   ·refine ⟨3, by unfold Mok; decide, ?_⟩
    by_cases c3 : kind / 3 % 3 = 1
    ·have c4 : ¬ (i : Int) + 1 = (n : Int) - 1 := fun z => c2 ⟨c3, by omega⟩
     simp [hB3, hR, md, c, c1, c4, f3, md3, c3, sizeLine_eq, ixD, atI, ixN]
    ·simp [hB3, hR, md, c, c1, f3, md3, c3, sizeLine_eq, ixD, atI, ixN]
  ·refine ⟨2, by unfold Mok; decide, ?_⟩
   simp [hB3, hR, md, c, c1, sizeLine_eq, ixD, atI, ixN]
 ·exact ⟨m, hm, by simp [hB3, hR, md, c]⟩
theorem hb4 (L : List D) (i j : Nat) {d m : Int} (hm : Mok m) : ∃ m', Mok m' /\ hB4 (hR ns most kind n L i j (.fr (.int d)) (.fr (.int m))) = some (.nx (hR ns most kind n L i j (.fr (.int d)) (.fr (.int m')))) := by
 have md := y4 (i := kind) (show (0 : Int) < 3 by decide)
 have f8 := vP (i := d) (show (0 : Int) < 8 by decide) (by decide)
 have md8 := y4 (i := d / 8) (show (0 : Int) < 3 by decide)
 by_cases c : kind % 3 = 2
 ·by_cases c1 : (j : Int) = (i : Int) + 1
  ·exact ⟨m, hm, by simp [hB4, hR, md, c, c1]⟩
  ·by_cases c2 : 0 < d / 8 % 3
   ·exact ⟨2, by unfold Mok; decide, by simp [hB4, hR, md, c, c1, f8, md8, c2]⟩
   ·exact ⟨m, hm, by simp [hB4, hR, md, c, c1, f8, md8, c2]⟩
 ·exact ⟨m, hm, by simp [hB4, hR, md, c]⟩
theorem hb5 {ts : List T3} {i j : Nat} (s7 : Slot) {m : Int} (hm : Mok m) (ht : Vy n ts) (hi : i < j) (hj : j < n) (hlen : ts.length < 1000) : ∃ ts', Vy n ts' /\ ts'.length <= ts.length + 1 /\ hB5 (hR ns most kind n (ts.map tD) i j s7 (.fr (.int m))) = some (.nx (hR ns most kind n (ts'.map tD) i j s7 (.fr (.int m)))) := by
 by_cases c : m = 2
 ·exact ⟨ts, ht, by omega, by simp [hB5, hR, c]⟩
 ·refine ⟨ts ++ [((i : Int), (j : Int), m)], fun t h => ?_, by simp, ?_⟩
  ·rcases g1m.mp h with h | h
   ·exact ht t h
   ·have : t = ((i : Int), (j : Int), m) := by simpa using h
    subst this
    unfold Mok at hm
    exact ⟨by simp only []; omega, by simp only []; omega, by simp only []; omega, by simp only []; omega⟩
  ·have z : ts.length < sizeLine := ua (by omega)
   have z3 : (3 : Nat) <= sizeLine := szl (by decide)
   simp [hB5, hR, c, z, z3, tD]
include hl hn in
theorem JW {ts : List T3} {i j : Nat} (s7 s8 : Slot) (ht : Vy n ts) (hi : i < j) (hj : j < n) (hlen : ts.length < 1000) : ∃ ts' s7' s8', Vy n ts' /\ ts'.length <= ts.length + 1 /\ JY (hR ns most kind n (ts.map tD) i j s7 s8) = some (.nx (hR ns most kind n (ts'.map tD) i j s7' s8')) := by
 obtain ⟨d, _, e1⟩ := hb1 ns hl most kind n hn (ts.map tD) (i := i) (j := j) (by omega) (by omega) s7 s8
 obtain ⟨m, m1, e2⟩ := hb2 ns most kind n (ts.map tD) i j (d := d) s8
 obtain ⟨m', m2, e3⟩ := hb3 ns most kind n (ts.map tD) i j (.fr (.int d)) m1
 obtain ⟨m'', m3, e4⟩ := hb4 ns most kind n (ts.map tD) i j (d := d) m2
 obtain ⟨ts', h1, h2, e5⟩ := hb5 ns most kind n (.fr (.int d)) m3 ht hi hj hlen
 refine ⟨ts', .fr (.int d), .fr (.int m''), h1, h2, ?_⟩
 unfold JY
 simp only [zN, e1, e2, e3, e4, e5, g0a]
include hl hn in
theorem HA {i : Nat} (hi : i < n) : ∀ (k j : Nat) (ts : List T3) (s6 s7 s8 : Slot), j + k = n -> i < j -> Vy n ts -> ts.length + k < 1000 -> ∃ ts' s6' s7' s8', Vy n ts' /\ ts'.length <= ts.length + k ∧
  yK (zJ 6) JY (zY (j : Int) (n : Int)) [.fr (.lst (ns.map D.int)), .fr (.int most), .fr (.int n), .fr (.int kind), .ol (ts.map tD), .fr (.int i), s6, s7, s8] = some (.nx [.fr (.lst (ns.map D.int)), .fr (.int most), .fr (.int n), .fr (.int kind), .ol (ts'.map tD), .fr (.int i), s6', s7', s8'])
 | 0, j, ts, s6, s7, s8, h, hij, ht, hlen => by
  rw [wg (by omega)]
  exact ⟨ts, s6, s7, s8, ht, by omega, rfl⟩
 | k + 1, j, ts, s6, s7, s8, h, hij, ht, hlen => by
  obtain ⟨ts1, a7, a8, h1, h2, e1⟩ := JW ns hl most kind n hn (i := i) (j := j) s7 s8 ht hij (by omega) (by omega)
  obtain ⟨ts2, b6, b7, b8, h3, h4, e2⟩ := HA hi k (j + 1) ts1 (.fr (.int j)) a7 a8 (by omega) (by omega) h1 (by omega)
  refine ⟨ts2, b6, b7, b8, h3, by omega, ?_⟩
  rw [xF (by omega)]
  unfold yK
  simp only [yu, g0a, g0j, g0h]
  rw [e1]
  exact e2
include hl hn in
theorem Hz : ∀ (k i : Nat) (ts : List T3) (s5 s6 s7 s8 : Slot), i + k = n -> Vy n ts -> ts.length + k * 6 < 900 -> ∃ ts' s5' s6' s7' s8', Vy n ts' /\ ts'.length <= ts.length + k * 6 ∧
  yK (zJ 5) (kF (CZ (zb (zc yV (vF 5) (cF (.int 1))) (zb (vF 2) zu))) (zJ 6) JY) (zY (i : Int) (n : Int)) [.fr (.lst (ns.map D.int)), .fr (.int most), .fr (.int n), .fr (.int kind), .ol (ts.map tD), s5, s6, s7, s8] =
   some (.nx [.fr (.lst (ns.map D.int)), .fr (.int most), .fr (.int n), .fr (.int kind), .ol (ts'.map tD), s5', s6', s7', s8'])
 | 0, i, ts, s5, s6, s7, s8, h, ht, hlen => by
  rw [wg (by omega)]
  exact ⟨ts, s5, s6, s7, s8, ht, by omega, rfl⟩
 | k + 1, i, ts, s5, s6, s7, s8, h, ht, hlen => by
  obtain ⟨ts1, a6, a7, a8, h1, h2, e1⟩ := HA ns hl most kind n hn (i := i) (by omega) (n - (i + 1)) (i + 1) ts s6 s7 s8 (by omega) (by omega) ht (by omega)
  obtain ⟨ts2, b5, b6, b7, b8, h3, h4, e2⟩ := Hz k (i + 1) ts1 (.fr (.int i)) a6 a7 a8 (by omega) h1 (by omega)
  have rg : ki [.int ((i : Int) + 1), .int (n : Int)] = some (zY ((i + 1 : Nat) : Int) (n : Int)) := by
   have e0 : ((i : Int) + 1) = ((i + 1 : Nat) : Int) := by omega
   rw [e0]
   exact XI (by omega) (by omega) (by omega) (by omega)
  refine ⟨ts2, b5, b6, b7, b8, h3, by omega, ?_⟩
  rw [xF (by omega)]
  unfold yK
  simp only [yu, g0a, g0j, g0h, xv, CP, zm, zp, yk, xc, zv, g0b, g0c, qG, rg]
  rw [e1]
  exact e2
end
theorem Vy.rev {n : Nat} {ts : List T3} (h : Vy n ts) : Vy n ts.reverse := fun t ht => h t (by simpa using ht)
theorem X6 (ns : List Int) (hl : ns.length <= 63) (most : Nat) (h1 : 1 <= most) (h2 : most <= 6) : ∃ (n : Nat) (ts : List T3), 1 <= n /\ n <= most /\ Vy n ts /\ ts.length <= 36 /\ vC [.lst (ns.map D.int), .int most] = some (zj n ts) := by
 have c0 := jx ns 0 hl
 obtain ⟨kind, _, _, k1⟩ := Y0 (wx ns 0) 1 (by decide)
 have md := y4 (i := wx ns 0) (show (0 : Int) < (most : Int) by omega)
 have b1 := Int.emod_nonneg (wx ns 0) (show (most : Int) ≠ 0 by omega)
 have b2 := Int.emod_lt_of_pos (wx ns 0) (show (0 : Int) < (most : Int) by omega)
 obtain ⟨n, hn⟩ : ∃ n : Nat, 1 + wx ns 0 % (most : Int) = (n : Int) := ⟨(1 + wx ns 0 % (most : Int)).toNat, by omega⟩
 have hn1 : 1 <= n := by omega
 have hn6 : n <= most := by omega
 obtain ⟨ts, a5, a6, a7, a8, q1, q2, e⟩ := Hz ns hl (most : Int) kind n (by omega) n 0 [] .no .no .no .no (by omega) (fun t ht => by cases ht) (by simp; omega)
 have rg : wV [.int (n : Int)] = some (zY ((0 : Nat) : Int) (n : Int)) := y8 (by omega) (by omega)
 have f27 := vP (i := kind) (show (0 : Int) < 27 by decide) (by decide)
 have md2 := y4 (i := kind / 27) (show (0 : Int) < 2 by decide)
 have z0 : 0 <= sizeLine := g2e _
 have z2 : 0 + 1 + 1 <= sizeLine := szl (by decide)
 have c0' : zT [.lst (ns.map D.int), .int 0] = some (.int (wx ns 0)) := c0
 have k1' : xH [.int (wx ns 0), .int 1] = some (.int kind) := k1
 have hlen : ts.length <= 36 := by simp at q2; omega
 unfold JY hB1 hB2 hB3 hB4 hB5 at e
 unfold vC ZQ
 by_cases c : kind / 27 % 2 = 1
 ·refine ⟨n, ts.reverse, hn1, hn6, q1.rev, by simpa using hlen, ?_⟩
  simp only [zP, zt, g0f, g0o, g0d, g0e, Nat.reduceAdd, Nat.reduceSub, g0g, g0p, g0n, zN, yj, zp, xc, zD, zm, yk, zv, g0b, g0c, g0a, c0', md, qG, hn, g0j, g0h, k1', XG, XF, if_pos z0, xv, ue, rg]
  rw [g0o] at e
  rw [e]
  simp only [g0a, yH, yn, zp, yk, xc, g0b, g0c, f27, md2, uo, c, decide_true, if_true, XG, CS, MO, uY, WV, g0j, g0h, QZ, HY, zR, x6, zm, zv, g0d, g0e, if_pos z2, z9]
  simp [zj]
 ·refine ⟨n, ts, hn1, hn6, q1, hlen, ?_⟩
  simp only [zP, zt, g0f, g0o, g0d, g0e, Nat.reduceAdd, Nat.reduceSub, g0g, g0p, g0n, zN, yj, zp, xc, zD, zm, yk, zv, g0b, g0c, g0a, c0', md, qG, hn, g0j, g0h, k1', XG, XF, if_pos z0, xv, ue, rg]
  rw [g0o] at e
  rw [e]
  simp only [g0a, yH, yn, zp, yk, xc, g0b, g0c, f27, md2, uo, c, decide_false, g0l, if_false, x8, g0j, g0h, QZ, HY, zR, x6, zm, zv, g0d, g0e, if_pos z2, z9]
  simp [zj]
theorem Ka {d : D} (h : dep d <= 100) : eqF d d = some (.bl true) := by
 unfold eqF
 rw [if_pos h, ju]
theorem BE {d : D} (h : dep d <= 100) : neF d d = some (.bl false) := by
 unfold neF
 rw [if_pos h, ju]
 rfl
theorem Kg (n : Nat) (ts : List T3) : dep (zj n ts) <= 100 := by
 have : uV (ts.map tD) <= 1 := jZ fun d hd => by
  obtain ⟨x, _, rfl⟩ := g2k.mp hd
  simp [tD, dep, uV]
 simp [zj, dep, uV]
 omega
noncomputable def wB : FS := xb 5 (zc yV (vF 5) (tupF (zb (zc qQ (zO xH (zb (zO zT (zb (vF 0) (zb (zc yV (vF 2) (vF 6)) zu))) (zb (zc yV (zc wJ (cF (.int 7)) (vF 6)) (cF (.int 3))) zu))) (zc ixD (vF 1) (cF (.int 0)))) zu)))
theorem Uv (w : List Nat) (i : Nat) (h : w.length <= 90) : yV (zq w) (.tup [.int i]) = some (zq (w ++ [i])) := by
 show (if _ then _ else _) = _
 rw [if_pos (szl (by simp; omega))]
 simp [zq]
theorem kX (ns : List Int) (hl : ns.length <= 63) (n : Nat) (ts : List T3) (hn : 1 <= n) (first : Nat) (many : Nat) (s4 : Slot) (hm : many <= 60) : ∀ (m k : Nat) (w : List Nat) (s6 : Slot), k + m = many -> w.length = k -> (∀ i ∈ w, i < n) -> ∃ (w' : List Nat) (s6' : Slot), w'.length = many /\ (∀ i ∈ w', i < n) ∧
  yK (zJ 6) wB (zY (k : Int) (many : Int)) [.fr (.lst (ns.map D.int)), .fr (zj n ts), .fr (.int first), .fr (.int many), s4, .fr (zq w), s6] = some (.nx [.fr (.lst (ns.map D.int)), .fr (zj n ts), .fr (.int first), .fr (.int many), s4, .fr (zq w'), s6'])
 | 0, k, w, s6, h, hw, hi => by
  rw [wg (by omega)]
  exact ⟨w, s6, by omega, hi, rfl⟩
 | m + 1, k, w, s6, h, hw, hi => by
  have cv := jx ns (first + k) hl
  obtain ⟨z, h0, _, mv⟩ := Y0 (wx ns (first + k)) (7 * k + 3) (by omega)
  have en : ixD (zj n ts) (.int 0) = some (.int n) := by unfold zj; exact ix0
  have md := y4 (i := z) (show (0 : Int) < (n : Int) by omega)
  have b1 := Int.emod_nonneg z (show (n : Int) ≠ 0 by omega)
  have b2 := Int.emod_lt_of_pos z (show (0 : Int) < (n : Int) by omega)
  obtain ⟨i, ei⟩ : ∃ i : Nat, z % (n : Int) = (i : Int) := ⟨(z % (n : Int)).toNat, by omega⟩
  rw [ei] at md
  have wd := Uv w i (by omega)
  have m7 : wJ (.int 7) (.int (k : Int)) = some (.int (7 * (k : Int))) := xg (vV (by decide) (by decide))
  have e1 : (first : Int) + (k : Int) = ((first + k : Nat) : Int) := by omega
  have e2 : (7 : Int) * (k : Int) + 3 = ((7 * k + 3 : Nat) : Int) := by omega
  have z1 : 0 + 1 <= sizeLine := szl (by decide)
  obtain ⟨w', s6', q1, q2, e⟩ := kX ns hl n ts hn first many s4 hm m (k + 1) (w ++ [i]) (.fr (.int k)) (by omega) (by simp; omega) (fun j hj => by
   rcases g1m.mp hj with hj | hj
   ·exact hi j hj
   ·have : j = i := by simpa using hj
    omega)
  refine ⟨w', s6', q1, q2, ?_⟩
  rw [xF (by omega)]
  unfold yK wB
  simp only [yu, g0a, g0j, g0h, yj, zp, yk, xc, g0b, g0c, x6, zm, zv, zD, qG, m7, e1, e2, cv, mv, en, md, g0d, g0e, if_pos z1, wd]
  unfold wB at e
  exact e
theorem KB (ns : List Int) (hl : ns.length <= 63) (n : Nat) (ts : List T3) (hn : 1 <= n) (first many : Nat) (hm : many <= 60) : ∃ w : List Nat, w.length <= many /\ (∀ i ∈ w, i < n) /\ vM [.lst (ns.map D.int), zj n ts, .int first, .int many] = some (zq w) := by
 have cv := jx ns first hl
 obtain ⟨z, h0, _, mv⟩ := Y0 (wx ns first) 60 (by decide)
 have mv' : xH [.int (wx ns first), .int 60] = some (.int z) := mv
 have md := y4 (i := z) (show (0 : Int) < 3 by decide)
 have f3 := vP (i := z) (show (0 : Int) < 3 by decide) (by decide)
 have z0 : 0 <= sizeLine := g2e _
 have e0 : D.tup [] = zq [] := rfl
 by_cases c : z % 3 = 1
 ·have b1 := Int.emod_nonneg (z / 3) (show (many : Int) + 1 ≠ 0 by omega)
  have b2 := Int.emod_lt_of_pos (z / 3) (show (0 : Int) < (many : Int) + 1 by omega)
  have mm := y4 (i := z / 3) (show (0 : Int) < (many : Int) + 1 by omega)
  obtain ⟨k, ek⟩ : ∃ k : Nat, z / 3 % ((many : Int) + 1) = (k : Int) := ⟨(z / 3 % ((many : Int) + 1)).toNat, by omega⟩
  rw [ek] at mm
  have ra : wV [.int (k : Int)] = some (zY ((0 : Nat) : Int) (k : Int)) := y8 (by omega) (by omega)
  obtain ⟨w, s6, q1, q2, e⟩ := kX ns hl n ts hn first k (.fr (.int z)) (by omega) k 0 [] .no (by omega) rfl (by simp)
  refine ⟨w, by omega, q2, ?_⟩
  simp only [vM, kT, zP, zt, g0f, g0o, g0d, g0e, Nat.reduceAdd, Nat.reduceSub, g0g, g0p, g0n, zN, yj, zD, zm, yk, zv, xc, g0b, g0c, g0a, cv, mv', g0j, g0h, yH, yn, zp, md, c, uo, decide_true, if_true, f3, qG, mm, x6, if_pos z0, xv, ue, ra, e0]
  unfold wB at e
  rw [e]
  simp only [g0a, zR, yk, g0b, g0c, z9]
 ·have ra : wV [.int (many : Int)] = some (zY ((0 : Nat) : Int) (many : Int)) := y8 (by omega) (by omega)
  obtain ⟨w, s6, q1, q2, e⟩ := kX ns hl n ts hn first many (.fr (.int z)) (by omega) many 0 [] .no (by omega) rfl (by simp)
  refine ⟨w, by omega, q2, ?_⟩
  simp only [vM, kT, zP, zt, g0f, g0o, g0d, g0e, Nat.reduceAdd, Nat.reduceSub, g0g, g0p, g0n, zN, yj, zD, zm, yk, zv, xc, g0b, g0c, g0a, cv, mv', g0j, g0h, yH, yn, zp, md, c, uo, decide_false, g0l, if_false, x8, x6, if_pos z0, xv, ue, ra, e0]
  unfold wB at e
  rw [e]
  simp only [g0a, zR, yk, g0b, g0c, z9]
theorem XJ (n : Nat) {ts : List T3} (hg : yw ts) (W : D) (hn : n <= 100) : ∀ (l : List Nat) (r : List Gd) (s3 : Slot), r.length = n -> (∀ i ∈ l, i < n) -> ∃ s3', yK (zJ 3) (xb 2 (zO wj (zb (vF 0) (zb (vF 3) (zb (vF 2) zu))))) (l.map fun (i : Nat) => .int (i : Int)) [.fr (zj n ts), .fr W, .fr (xu r), s3] =
  some (.nx [.fr (zj n ts), .fr W, .fr (xu (l.foldl (fun r i => wX (zf ts i) i r) r)), s3'])
 | [], r, s3, hr, hl => ⟨s3, rfl⟩
 | i :: l, r, s3, hr, hl => by
  have hi := hl i g0s
  have m := XY n hg (i := i) (r := r) (by omega) (by omega)
  obtain ⟨t3, e'⟩ := XJ n hg W hn l (wX (zf ts i) i r) (.fr (.int i)) (by rw [z7, hr]) (fun j hj => hl j (g0m _ hj))
  refine ⟨t3, ?_⟩
  rw [g0f]
  unfold yK
  simp only [yu, g0a, g0j, g0h, yj, zD, zm, zv, yk, g0b, g0c, m]
  exact e'
theorem K4 (n : Nat) {ts : List T3} (hg : yw ts) {w : List Nat} {r : List Gd} (hn : n <= 100) (hr : r.length = n) (hw : ∀ i ∈ w, i < n) : X8 [zj n ts, zq w, xu r] = some (xu (yd (zf ts) w r)) := by
 obtain ⟨t3, e⟩ := XJ n hg (zq w) hn w.reverse r .no hr (fun i hi => hw i (by simpa using hi))
 have er : (w.map fun (i : Nat) => D.int (i : Int)).reverse = w.reverse.map fun (i : Nat) => D.int (i : Int) := by simp
 unfold X8 Cs
 simp only [zP, zt, g0f, g0o, g0d, g0e, Nat.reduceAdd, Nat.reduceSub, g0g, g0p, g0n, zN, xv, KY, yk, g0b, g0c, g0a, zq, er]
 unfold zq at e
 rw [e]
 simp only [g0a, zR, yk, g0b, g0c, z9, yd, List.foldl_reverse]
def qS (ts : List T3) (n : Nat) (w : List Nat) : List (List Gd) := (g1e n).map fun i => yd (zf ts) w (ye n i)
def vx (rs : List (List Gd)) : D := .lst (rs.map xu)
theorem Zh (n : Nat) {ts : List T3} (hg : yw ts) {w : List Nat} (hn : n <= 100) (hw : ∀ i ∈ w, i < n) : vO [zj n ts, zq w] = some (vx (qS ts n w)) := by
 have e : ixD (zj n ts) (.int 0) = some (.int n) := by unfold zj; exact ix0
 have ra : wV [.int (n : Int)] = some (zY ((0 : Nat) : Int) n) := y8 (by omega) (by omega)
 have c := Qj (f := zO X8 (zb (vF 1) (zb (vF 2) (zb (zO vL (zb (vF 1) (zb (vF 0) zu))) zu)))) (C := [.fr (zj n ts), .fr (zq w)]) (φ := fun i => xu (yd (zf ts) w (ye n i))) (zY ((0 : Nat) : Int) n) 0 .no (fun k d hk => by
  obtain ⟨rfl, _⟩ := qC hk
  have sv := UE n ts k hn
  have lv := K4 n hg hn (zh n k) hw
  have e2 : ((0 : Nat) : Int) + (k : Int) = (k : Int) := by omega
  simp only [zD, zm, zv, yk, g0c, g0b, g0a, e2, sv, lv, g1t])
 have hl : (zY ((0 : Nat) : Int) (n : Int)).length = n := by rw [w5]; omega
 have hi : YO (zb (zc ixD (vF 0) (cF (.int 0))) zu) [.fr (zj n ts), .fr (zq w)] = some (zY ((0 : Nat) : Int) n) := by
  simp only [ue, zm, zp, yk, g0b, xc, g0a, e, zv, ra]
 have hc := w9 (n := 1) (caps := [0, 1]) (γ := zJ 0) (ft := ttF) (f := zO X8 (zb (vF 1) (zb (vF 2) (zb (zO vL (zb (vF 1) (zb (vF 0) zu))) zu)))) hi (by rw [hl]; exact szl (by omega))
 have cs : vY 1 [0, 1] [.fr (zj n ts), .fr (zq w)] = [.no, .fr (zj n ts), .fr (zq w)] := rfl
 rw [cs, c, hl] at hc
 simp only [vO, Xn, zP, zt, g0f, g0o, g0d, g0e, Nat.reduceAdd, Nat.reduceSub, g0g, g0t, zR, xX, hc, g0a, g1o, z9, g1t]
 simp only [vx, qS, g1n, Function.comp_def]
theorem Xq (n : Int) : yq [.int n] = some (.int (M02.wsgn n)) := by
 unfold M02.wsgn
 by_cases h : 0 < n
 ·simp [yq, wN, h]
 ·by_cases h2 : n < 0
  ·simp [yq, wN, h, h2]
  ·simp [yq, wN, h, h2]
theorem Qu (n : Int) : -1 <= M02.wsgn n /\ M02.wsgn n <= 1 := by rcases M02.wsgn_cases n with ⟨_, e⟩ | ⟨_, e⟩ | ⟨_, e⟩ <;> rw [e] <;> decide
theorem VJ {x : Gd} (ha : x.1.natAbs < big) (hb : x.2.natAbs < big) : uw [gD x] = some (.int (YD x)) := by
 obtain ⟨a, b⟩ := x
 simp only at ha hb
 have m1 := xg (u6 ha ha)
 have m2 := xg (u6 ha hb)
 have m3 := xg (u6 hb hb)
 have wa := Qu a
 have wb := Qu b
 have m4 : wJ (.int (M02.wsgn a)) (.int (M02.wsgn b)) = _ := xg (vV (by omega) (by omega))
 have m5 : ∀ z, wJ (.int (M02.wsgn a)) (.int z) = _ := fun z => xg (vV (by omega) (by omega))
 unfold YD M02.sgn
 by_cases h : 0 <= M02.wsgn a * M02.wsgn b
 ·simp [uw, Ut, gD, ix0, ix1, Xq, h, m4]
 ·simp [uw, Ut, gD, ix0, ix1, Xq, h, m4, m5, m1, m2, m3]
def Fit (r : List Gd) : Prop := ∀ x ∈ r, x.1.natAbs < big /\ x.2.natAbs < big
def Kz (s : Int) (r : List Gd) : Bool := r.any fun x => decide (YD x = s)
theorem qD (neg : Bool) (s : Int) (r : List Gd) : inD neg (.int s) (.lst ((r.map YD).map D.int)) = some (.bl (xor neg (Kz s r))) := by
 have hd : uV ((r.map YD).map D.int) <= 100 := g2a (jZ (k := 0) fun d hd => by
  obtain ⟨x, _, rfl⟩ := g2k.mp hd
  simp [dep]) (by decide)
 show (if _ then _ else _) = _
 rw [if_pos hd]
 congr 3
 unfold Kz
 rw [g1n, List.any_map]
 rfl
theorem jq {α β : Type} (f : α -> β) (l : List α) (z : α) : (g1e l.length).map (fun k => f (l.getD k z)) = l.map f := by
 apply g2o
 intro k
 rw [g0w, g0w]
 by_cases h : k < l.length
 ·rw [List.getElem?_range h]
  simp [g0k, h]
 ·rw [g1d (by simpa using h), g1d (by omega)]
  rfl
theorem jF {r : List Gd} (hr : r.length <= 100) {g : List D -> Option D} (hg : ∀ x ∈ r, g [gD x] = some (.int (YD x))) : xS (zJ 0) ttF (zO g (zb (vF 0) zu)) (r.map gD) [.no] = some ((r.map YD).map D.int) := by
 have c := Qj (f := zO g (zb (vF 0) zu)) (C := []) (φ := fun k => D.int (YD (r.getD k (0, 0)))) (r.map gD) 0 .no (fun k d hk => by
  rw [g0w] at hk
  cases e : r[k]? with
  | none => rw [e] at hk; cases hk
  | some x =>
   rw [e] at hk
   cases hk
   have := hg x (g2h e)
   simp only [zD, zm, zv, yk, g0b, g0a, this, g1t, g0k, e, g2z])
 rw [c]
 have := jq (fun x => D.int (YD x)) r (0, 0)
 simp only [g1j, g1t, g1n] at this ⊢
 rw [this]
 rfl
def MI (r : List Gd) : Bool := Kz 1 r && !Kz (-1) r
def MG (r : List Gd) : Bool := Kz (-1) r && !Kz 1 r
theorem Kq {r : List Gd} (hr : r.length <= 100) (hf : Fit r) : wq [xu r] = some (.bl (MG r)) := by
 have c := jF hr (g := uw) fun x hx => VJ (hf x hx).1 (hf x hx).2
 have i1 := qD false (-1) r
 have i2 := qD true 1 r
 have hi : yc (vF 0) [.fr (xu r), .no] = some (r.map gD) := rfl
 have hc := w9 (n := 1) (caps := []) (γ := zJ 0) (ft := ttF) (f := zO uw (zb (vF 0) zu)) hi (szl (by simpa using hr))
 have cs : vY 1 [] [.fr (xu r), .no] = [.no] := rfl
 rw [cs, c] at hc
 simp only [wq, kc, zP, zt, g0f, g0o, g0d, g0e, Nat.reduceAdd, Nat.reduceSub, g0g, g0p, g0n, zN, yj, xX, hc, g1o, g0a, g0j, g0h, zR, VO, zp, xc, yk, g0b, g0c, i1, i2, uY, WV, Bool.false_xor, Bool.true_xor]
 unfold MG
 cases Kz (-1) r <;> rfl
theorem Kv {r : List Gd} (hr : r.length <= 100) (hf : Fit r) : wt [xu r] = some (.bl (MI r)) := by
 have c := jF hr (g := uw) fun x hx => VJ (hf x hx).1 (hf x hx).2
 have i1 := qD false 1 r
 have i2 := qD true (-1) r
 have hi : yc (vF 0) [.fr (xu r), .no] = some (r.map gD) := rfl
 have hc := w9 (n := 1) (caps := []) (γ := zJ 0) (ft := ttF) (f := zO uw (zb (vF 0) zu)) hi (szl (by simpa using hr))
 have cs : vY 1 [] [.fr (xu r), .no] = [.no] := rfl
 rw [cs, c] at hc
 simp only [wt, kd, zP, zt, g0f, g0o, g0d, g0e, Nat.reduceAdd, Nat.reduceSub, g0g, g0p, g0n, zN, yj, xX, hc, g1o, g0a, g0j, g0h, zR, VO, zp, xc, yk, g0b, g0c, i1, i2, uY, WV, Bool.false_xor, Bool.true_xor]
 unfold MI
 cases Kz 1 r <;> rfl
theorem Zt (n : Nat) {ts : List T3} (hg : yw ts) {w : List Nat} (hn : n <= 100) (hw : ∀ i ∈ w, i < n) : wo [zj n ts, zq w] = some (vx (qS ts n w)) := by
 have e : ixD (zj n ts) (.int 0) = some (.int n) := by unfold zj; exact ix0
 have ra : wV [.int (n : Int)] = some (zY ((0 : Nat) : Int) n) := y8 (by omega) (by omega)
 have c := Qj (f := zO xI (zb (vF 1) (zb (vF 2) (zb (zO yt (zb (vF 1) (zb (vF 0) zu))) zu)))) (C := [.fr (zj n ts), .fr (zq w)]) (φ := fun i => xu (yd (zf ts) w (ye n i))) (zY ((0 : Nat) : Int) n) 0 .no (fun k d hk => by
  obtain ⟨rfl, _⟩ := qC hk
  have sv := qR n ts k hn
  have lv := JK n hg hn (zh n k) hw
  have e2 : ((0 : Nat) : Int) + (k : Int) = (k : Int) := by omega
  simp only [zD, zm, zv, yk, g0c, g0b, g0a, e2, sv, lv, g1t])
 have hl : (zY ((0 : Nat) : Int) (n : Int)).length = n := by rw [w5]; omega
 have hi : YO (zb (zc ixD (vF 0) (cF (.int 0))) zu) [.fr (zj n ts), .fr (zq w)] = some (zY ((0 : Nat) : Int) n) := by
  simp only [ue, zm, zp, yk, g0b, xc, g0a, e, zv, ra]
 have hc := w9 (n := 1) (caps := [0, 1]) (γ := zJ 0) (ft := ttF) (f := zO xI (zb (vF 1) (zb (vF 2) (zb (zO yt (zb (vF 1) (zb (vF 0) zu))) zu)))) hi (by rw [hl]; exact szl (by omega))
 have cs : vY 1 [0, 1] [.fr (zj n ts), .fr (zq w)] = [.no, .fr (zj n ts), .fr (zq w)] := rfl
 rw [cs, c, hl] at hc
 simp only [wo, ka, zP, zt, g0f, g0o, g0d, g0e, Nat.reduceAdd, Nat.reduceSub, g0g, g0t, zR, xX, hc, g0a, g1o, z9, g1t]
 simp only [vx, qS, g1n, Function.comp_def]
theorem JG {x : Gd} (ha : x.1.natAbs <= 2 ^ 700) (hb : x.2.natAbs <= 2 ^ 700) : y7 [gD x] = some (.int (YD x)) := by
 obtain ⟨a, b⟩ := x
 simp only at ha hb
 have es : YD (a, b) = Y5 a b := by rw [Qa, <- M02.sgn_law]; rfl
 rw [es]
 have hP : (2 : Nat) ^ 710 = 2 ^ 700 * 2 ^ 10 := Nat.pow_add 2 700 10
 have h10 : (2 : Nat) ^ 10 = 1024 := by decide
 have hpos : 0 < (2 : Nat) ^ 700 := Nat.pow_pos (by decide)
 have ht : (2 * a + b).natAbs < big := Yh (k := 710) (by rw [hP, h10]; generalize (2 : Nat) ^ 700 = P at *; omega) (by decide)
 have h5 : (5 * b).natAbs < big := Yh (k := 710) (by rw [hP, h10]; generalize (2 : Nat) ^ 700 = P at *; omega) (by decide)
 have hb' : b.natAbs < big := Yh (k := 710) (by rw [hP, h10]; generalize (2 : Nat) ^ 700 = P at *; omega) (by decide)
 have m1 : wJ (.int 2) (.int a) = some (.int (2 * a)) := xg (vV (by decide) (by decide))
 have m2 : wJ (.int (2 * a + b)) (.int (2 * a + b)) = some (.int ((2 * a + b) * (2 * a + b))) := xg (u6 ht ht)
 have m3 : wJ (.int 5) (.int b) = some (.int (5 * b)) := xg (vV (by decide) (by decide))
 have m4 : wJ (.int (5 * b)) (.int b) = some (.int (5 * b * b)) := xg (u6 h5 hb')
 clear ha hb hP hpos ht h5 hb' es
 unfold Y5
 generalize hp : 2 * a + b = p at m2
 generalize hpp : p * p = pp at m2
 generalize hbb : 5 * b * b = bb at m4
 have i0 : ixD (gD (a, b)) (.int 0) = some (.int a) := ix0
 have i1 : ixD (gD (a, b)) (.int 1) = some (.int b) := ix1
 have z2 : 2 <= sizeLine := szl (by decide)
 have l0 : ixD (.lst [.int (-1), .int 1]) (.int 0) = some (.int (-1)) := by simp [ixD, atI, ixN]
 have l1 : ixD (.lst [.int (-1), .int 1]) (.int 1) = some (.int 1) := by simp [ixD, atI, ixN]
 by_cases c1 : 0 <= p /\ 0 <= b
 ·by_cases c2 : 0 < p + b
  ·simp [y7, wH, i0, i1, m1, hp, c1, c2]
  ·simp [y7, wH, i0, i1, m1, hp, c1, c2]
 ·by_cases c2 : p <= 0 /\ b <= 0
  ·have c3 : ¬ (0 <= p /\ 0 <= b) := c1
   by_cases c4 : 0 <= p
   ·have c5 : ¬ 0 <= b := fun z => c1 ⟨c4, z⟩
    simp [y7, wH, i0, i1, m1, hp, c4, c5, c2]
   ·simp [y7, wH, i0, i1, m1, hp, c4, c2]
  ·by_cases c3 : 0 < p
   ·have c4 : 0 <= p := by omega
    have c5 : ¬ 0 <= b := fun z => c1 ⟨c4, z⟩
    have c6 : ¬ p <= 0 := by omega
    by_cases c7 : bb < pp
    ·simp [y7, wH, i0, i1, m1, hp, c4, c5, c6, c3, m2, m3, m4, hpp, hbb, c7, z2, l0, l1]
    ·simp [y7, wH, i0, i1, m1, hp, c4, c5, c6, c3, m2, m3, m4, hpp, hbb, c7, z2, l0, l1]
   ·have c4 : 0 < b := by omega
    have c5 : ¬ 0 <= p := fun z => c1 ⟨z, by omega⟩
    have c6 : p <= 0 := by omega
    have c7 : ¬ b <= 0 := by omega
    by_cases c8 : pp < bb
    ·simp [y7, wH, i0, i1, m1, hp, c5, c6, c7, c3, m2, m3, m4, hpp, hbb, c8, z2, l0, l1]
    ·simp [y7, wH, i0, i1, m1, hp, c5, c6, c7, c3, m2, m3, m4, hpp, hbb, c8, z2, l0, l1]
theorem Gv {c : Gd} (hc : -3 <= c.1 /\ c.1 <= 2 /\ -1 <= c.2 /\ c.2 <= 0) {r s : List Gd} (hr : r.length = s.length) (hl : r.length <= 100) : wL [xu r, gD c, xu s] = some (xu (Xo r (rsc (yL c) s))) := by
 have hz : Qp (r.map gD) (s.map gD) = Qp (r.map gD) (s.map gD) := rfl
 have lz : (Qp (r.map gD) (s.map gD)).length = r.length := by rw [kW]; simp; omega
 have cm := Ck (f := zO uQ (zb (vF 0) (zb (zO wQ (zb (zO vz (zb (vF 2) (zb (vF 1) zu))) zu)) zu))) (C := [.fr (gD c)]) (φ := fun k => gD (yD (r.getD k (0, 0)) (yL (yM c (s.getD k (0, 0)))))) (Qp (r.map gD) (s.map gD)) 0 .no .no (fun k d hk => by
  obtain ⟨x, y, e1, e2, rfl⟩ := VE hk
  rw [g0w] at e1 e2
  cases q1 : r[k]? with
  | none => rw [q1] at e1; cases e1
  | some a =>
   cases q2 : s[k]? with
   | none => rw [q2] at e2; cases e2
   | some b =>
    rw [q1] at e1
    rw [q2] at e2
    cases e1
    cases e2
    have m := Xw b hc
    have mi := Zr (yM c b)
    have pl := YR a (yL (yM c b))
    refine ⟨_, _, rfl, ?_⟩
    simp only [zD, zm, zv, yk, g0c, g0b, g0a, m, mi, pl, g1t, g0k, q1, q2, g2z])
 have hi : Ub (vF 0) (vF 2) [.fr (xu r), .fr (gD c), .fr (xu s)] = some (Qp (r.map gD) (s.map gD)) := by
  simp only [KW, yB, yk, g0b, g0c, g0a, xu, QY]
 have hcf := w9 (n := 2) (caps := [1]) (γ := ZT 2 (yU (zJ 0) (yU (zJ 1) Yf))) (ft := ttF) (f := zO uQ (zb (vF 0) (zb (zO wQ (zb (zO vz (zb (vF 2) (zb (vF 1) zu))) zu)) zu))) hi (by rw [lz]; exact szl hl)
 have cs : vY 2 [1] [.fr (xu r), .fr (gD c), .fr (xu s)] = [.no, .no, .fr (gD c)] := rfl
 rw [cs, cm, lz] at hcf
 simp only [wL, ZN, zP, zt, g0f, g0o, g0d, g0e, Nat.reduceAdd, Nat.reduceSub, g0g, g0t, zR, zD, zm, xX, hcf, zv, g0a, g1o, QW, z9, g1t]
 have er : (g1e r.length).map (fun k => gD (yD (r.getD k (0, 0)) (yL (yM c (s.getD k (0, 0)))))) = (Xo r (rsc (yL c) s)).map gD := by
  have h1 := jq gD (Xo r (rsc (yL c) s)) (0, 0)
  rw [xG (by rw [zK, hr])] at h1
  rw [<- h1]
  apply g2g
  intro k _
  rw [w6 (by rw [zK, hr]), xE]
  congr 2
  simp only [yL, yM, Prod.mk.injEq]
  constructor <;> grind
 rw [er]
 rfl
theorem BH (ts : List T3) {n i j : Nat} (hi : i < n) (hj : j < n) : wX (zf ts i) i (ye n j) = Xo (ye n j) (rsc (yL (zf ts i j)) (ye n i)) := by
 have hl : (ye n j).length = (rsc (yL (zf ts i j)) (ye n i)).length := by rw [zK, zh, zh]
 apply vU (by rw [z7, xG hl])
 intro k hk
 rw [z7, zh] at hk
 rw [wD _ (by rw [zh]; exact hi), kH _ n j hj, w6 hl, xE, xC hi, xC hk, xC hk]
 by_cases c : k = i
 ·subst c
  simp only [if_true, kM]
 ·simp only [c, if_false, jr, xY]
theorem Qb (ts : List T3) {n : Nat} {w : List Nat} (hw : InW n w) {i j : Nat} (hi : i < n) (hj : j < n) : yd (zf ts) (w ++ [i]) (ye n j) = Xo (yd (zf ts) w (ye n j)) (rsc (yL (zf ts i j)) (yd (zf ts) w (ye n i))) := by
 rw [xh]
 show yd (zf ts) w (wX (zf ts i) i (ye n j)) = _
 rw [BH ts hi hj, kK _ _ (by rw [zK, zh, zh]) (by rw [zh]; exact hw), u7 _ _ _ (by rw [zh]; exact hw)]
theorem JU (ts : List T3) {n : Nat} (w : List Nat) {i : Nat} (hi : i < n) : ixD (vx (qS ts n w)) (.int i) = some (xu (yd (zf ts) w (ye n i))) := by
 unfold vx
 apply Kr
 simp [qS, hi]
theorem Yq (n : Nat) {ts : List T3} (hg : yw ts) {w : List Nat} (hn : n <= 100) (hw : InW n w) {i : Nat} (hi : i < n) : zH [zj n ts, vx (qS ts n w), .int i] = some (vx (qS ts n (w ++ [i]))) := by
 have ei : wR ((qS ts n w).map xu) = wR ((qS ts n w).map xu) := rfl
 have le : (wR ((qS ts n w).map xu)).length = n := by rw [wR]; simp [qS]
 have cm := Ck (f := zO wL (zb (vF 1) (zb (zO xi (zb (vF 2) (zb (vF 3) (zb (vF 0) zu)))) (zb (zc ixD (vF 4) (vF 3)) zu)))) (C := [.fr (zj n ts), .fr (.int i), .fr (vx (qS ts n w))]) (φ := fun j => xu (yd (zf ts) (w ++ [i]) (ye n j))) (wR ((qS ts n w).map xu)) 0 .no .no (fun k d hk => by
  have hk' : k < n := by
   have := (g0y.mp hk).1
   rwa [le] at this
  have e1 : (wR ((qS ts n w).map xu))[k]? = some (.tup [.int (k : Int), xu (yd (zf ts) w (ye n k))]) := by
   simp [wR, qS, hk', List.getElem?_zipIdx]
  rw [e1] at hk
  cases hk
  have pv := VR n hg (i : Int) (k : Int)
  have ia := JU ts w hi
  have lv := Gv (c := qP ts i k) (uF ts i k) (r := yd (zf ts) w (ye n k)) (s := yd (zf ts) w (ye n i)) (by rw [zG, zG, zh, zh]) (by rw [zG, zh]; exact hn)
  have ib := Qb ts hw hi hk'
  unfold zf at ib lv
  rw [<- ib] at lv
  refine ⟨_, _, rfl, ?_⟩
  unfold zf at ia
  simp only [zD, zm, zv, zp, yk, g0c, g0b, g0a, pv, g1t]
  unfold zf
  rw [ia]
  simp only [g0a]
  exact lv)
 have hit : qd (vF 1) [.fr (zj n ts), .fr (vx (qS ts n w)), .fr (.int i)] = some (wR ((qS ts n w).map xu)) := by
  simp only [kI, yB, yk, g0b, g0c, g0a, vx, XD]
 have hcf := w9 (n := 2) (caps := [0, 2, 1]) (γ := ZT 2 (yU (zJ 0) (yU (zJ 1) Yf))) (ft := ttF) (f := zO wL (zb (vF 1) (zb (zO xi (zb (vF 2) (zb (vF 3) (zb (vF 0) zu)))) (zb (zc ixD (vF 4) (vF 3)) zu)))) hit (by rw [le]; exact szl hn)
 have cs : vY 2 [0, 2, 1] [.fr (zj n ts), .fr (vx (qS ts n w)), .fr (.int i)] = [.no, .no, .fr (zj n ts), .fr (.int i), .fr (vx (qS ts n w))] := rfl
 rw [cs, cm, le] at hcf
 simp only [zH, xt, zP, zt, g0f, g0o, g0d, g0e, Nat.reduceAdd, Nat.reduceSub, g0g, g0t, zR, xX, hcf, g0a, g1o, z9, g1t]
 simp only [vx, qS, g1n, Function.comp_def]
theorem Vf (ts : List T3) {n : Nat} (hn : n <= 6) {w : List Nat} (hw : w.length <= 100) (i : Nat) : ∀ x ∈ yd (zf ts) w (ye n i), x.1.natAbs <= 2 ^ 700 /\ x.2.natAbs <= 2 ^ 700 := by
 have h := JO (ts := ts) (HQ n i) (by rw [zh]; exact hn) w
 have e : 1 * 32 ^ w.length <= 2 ^ 700 := by
  have h32 : (32 : Nat) = 2 ^ 5 := by decide
  rw [Nat.one_mul, h32, <- Nat.pow_mul]
  exact g2i (by decide) (by omega)
 intro x hx
 exact ⟨g2a (h x hx).1 e, g2a (h x hx).2 e⟩
theorem JN (ts : List T3) {n : Nat} (hn : n <= 6) {w : List Nat} (hw : w.length <= 100) (i : Nat) : Fit (yd (zf ts) w (ye n i)) := fun x hx => by
 have h := Vf ts hn hw i x hx
 exact ⟨Yh (k := 701) (g3e h.1 (Nat.pow_lt_pow_right (by decide) (by decide))) (by decide), Yh (k := 701) (g3e h.2 (Nat.pow_lt_pow_right (by decide) (by decide))) (by decide)⟩
theorem Fl (r : List Gd) : MI r = G5 r := rfl
noncomputable def whB : FS := yh (qp 2 (zO wt (zb (zc ixD (vF 3) (vF 4)) zu))) (xb 3 (zO zH (zb (vF 0) (zb (vF 3) (zb (vF 4) zu)))))
theorem Z2 (n : Nat) {ts : List T3} (hg : yw ts) (hn : n <= 6) (W : D) : ∀ (w pre : List Nat) (T : List Bool) (s : Slot), InW n pre -> InW n w -> pre.length + w.length <= 100 -> T.length + w.length <= 200 -> ∃ s3 s4, yK (zJ 4) whB (w.map fun (i : Nat) => .int (i : Int)) [.fr (zj n ts), .fr W, .ol (T.map D.bl), .fr (vx (qS ts n pre)), s] =
  some (.nx [.fr (zj n ts), .fr W, .ol ((T ++ xW ts n pre w).map D.bl), s3, s4])
 | [], pre, T, s, hp, hw, h1, h2 => ⟨_, _, by rw [xW, g0t]; rfl⟩
 | i :: w, pre, T, s, hp, hw, h1, h2 => by
  have hi : i < n := hw i g0s
  rw [g0d] at h1 h2
  obtain ⟨s3, s4, e⟩ := Z2 n hg hn W w (pre ++ [i]) (T ++ [G5 (yd (zf ts) pre (ye n i))]) (.fr (.int i)) (hp.app (InW.one hi)) (fun k hk => hw k (g0m _ hk)) (by rw [g0i, g1k]; omega) (by rw [g0i, g1k]; omega)
  refine ⟨s3, s4, ?_⟩
  have ia := JU ts pre hi
  have av := Kv (r := yd (zf ts) pre (ye n i)) (by rw [zG, zh]; omega) (JN ts hn (by omega) i)
  rw [Fl] at av
  have bv := Yq n hg (by omega) hp hi
  have z : (T.map D.bl).length < sizeLine := ua (by simp; omega)
  have em : (T ++ [G5 (yd (zf ts) pre (ye n i))]).map D.bl = T.map D.bl ++ [D.bl (G5 (yd (zf ts) pre (ye n i)))] := by simp
  rw [g0x, g2v] at e
  rw [xW, g0f]
  unfold yK
  rw [em] at e
  simp only [whB, yu, g0a, g0j, g0h, zN, XH, zD, zm, zv, zp, yk, g0c, g0b, ia, av, if_pos z, yj, bv]
  unfold whB at e
  exact e
theorem Qy (n : Nat) {ts : List T3} (hg : yw ts) (hn : n <= 6) {w : List Nat} (hw : InW n w) (hl : w.length <= 100) : yQ [zj n ts, zq w] = some (.lst ((xW ts n [] w).map D.bl)) := by
 have w0 : D.tup [] = zq [] := rfl
 have iv := Zh n hg (w := []) (by omega) (fun i hi => by cases hi)
 obtain ⟨s3, s4, e⟩ := Z2 n hg hn (zq w) w [] [] .no (fun i hi => by cases hi) hw (by simpa using hl) (by simp; omega)
 have z0 : 0 <= sizeLine := g2e _
 rw [g0o, g0n] at e
 unfold yQ wU
 unfold whB at e
 simp only [zP, zt, g0f, g0o, g0d, g0e, Nat.reduceAdd, Nat.reduceSub, g0g, g0p, g0n, zN, XG, XF, zv, g0a, if_pos z0, g0j, g0h, yj, zD, zm, yk, x6, g0b, g0c, w0, iv, xv, yB]
 have sq : YE (zq w) = some (w.map fun (i : Nat) => .int (i : Int)) := rfl
 simp only [sq, g0a]
 rw [e]
 simp only [g0a, QZ, HY, zR, yk, g0b, g0c, g0j, g0h, z9]
theorem Vi (n : Nat) {ts : List T3} (hg : yw ts) (hn : n <= 6) {w : List Nat} (hw : InW n w) (hl : w.length <= 100) : yf [zj n ts, zq w] = some (.bl ((xW ts n [] w).all id)) := by
 have wv := Qy n hg hn hw hl
 simp only [yf, kb, zP, zt, g0f, g0o, g0d, g0e, Nat.reduceAdd, Nat.reduceSub, g0g, g0t, zR, zD, zm, zv, yk, g0b, g0c, g0a, wv, Mc, z9]
theorem Yl {r : List Gd} (hr : r.length <= 100) (hf : ∀ x ∈ r, x.1.natAbs <= 2 ^ 700 /\ x.2.natAbs <= 2 ^ 700) : xy [xu r] = some (.bl (kR r)) := by
 have c := jF hr (g := y7) fun x hx => JG (hf x hx).1 (hf x hx).2
 have i1 := qD false (-1) r
 have i2 := qD true 1 r
 have hi : yc (vF 0) [.fr (xu r), .no] = some (r.map gD) := rfl
 have hc := w9 (n := 1) (caps := []) (γ := zJ 0) (ft := ttF) (f := zO y7 (zb (vF 0) zu)) hi (szl (by simpa using hr))
 have cs : vY 1 [] [.fr (xu r), .no] = [.no] := rfl
 rw [cs, c] at hc
 simp only [xy, ZR, zP, zt, g0f, g0o, g0d, g0e, Nat.reduceAdd, Nat.reduceSub, g0g, g0p, g0n, zN, yj, xX, hc, g1o, g0a, g0j, g0h, zR, VO, zp, xc, yk, g0b, g0c, i1, i2, uY, WV, Bool.false_xor, Bool.true_xor]
 have e1 : Kz (-1) r = WH (-1) r := rfl
 have e2 : Kz 1 r = WH 1 r := rfl
 rw [e1, e2]
 unfold kR
 cases WH (-1) r <;> rfl
theorem V8 (n : Nat) {ts : List T3} (hg : yw ts) {w : List Nat} (hn : n <= 100) (hw : ∀ i ∈ w, i < n) (i : Nat) : xI [zj n ts, zq w, xu (ye n i)] = some (xu (yd (zf ts) w (ye n i))) := JK n hg hn (zh n i) hw
noncomputable def shB : FS := ifS (blF (zO xy (zb (zO xI (zb (vF 0) (zb (ym (vF 1) noP (exP (vF 2))) (zb (zO yt (zb (vF 0) (zb (vF 3) zu))) zu)))) zu))) (yv (cF (.bl false))) nxF
theorem Zs (n : Nat) {ts : List T3} (hg : yw ts) (hn : n <= 6) (W : List Nat) (hW : InW n W) (hWl : W.length <= 100) : ∀ (w pre : List Nat) (s2 s3 : Slot), W = pre ++ w -> ∃ o, yK (ZT 2 (yU (zJ 2) (yU (zJ 3) Yf))) shB (ZA pre.length (w.map fun (i : Nat) => .int (i : Int))) [.fr (zj n ts), .fr (zq W), s2, s3] = some o ∧
  Qq ((some o).bind fun o => match o with | .nx ρ' => yv (cF (.bl true)) ρ' | o => some o) = some (.bl ((xW ts n pre w).all id))
 | [], pre, s2, s3, h => ⟨_, rfl, rfl⟩
 | i :: w, pre, s2, s3, h => by
  have hp : InW n pre := by rw [h] at hW; exact hW.left
  have hi : i < n := hW i (by rw [h]; simp)
  have hpl : pre.length <= 100 := by rw [h] at hWl; simp at hWl; omega
  obtain ⟨o, h1, h2⟩ := Zs n hg hn W hW hWl w (pre ++ [i]) (.fr (.int pre.length)) (.fr (.int i)) (by rw [h]; simp)
  rw [g0i, g1k] at h1
  have sv := qR n ts i (by omega)
  have lv := V8 n hg (w := pre) (by omega) hp i
  have bv := Yl (r := yd (zf ts) pre (ye n i)) (by rw [zG, zh]; omega) (Vf ts hn hpl i)
  have nz := qL (ts := ts) hp hi
  have ct := kP (W.map fun (i : Nat) => D.int (i : Int)) pre.length
  have et : (W.map fun (i : Nat) => D.int (i : Int)).take pre.length = pre.map fun (i : Nat) => D.int (i : Int) := by rw [h, g1u, List.take_left' (by simp)]
  rw [et] at ct
  have wp : D.tup (pre.map fun (i : Nat) => D.int (i : Int)) = zq pre := rfl
  rw [g0f, xW, List.all_cons]
  unfold ZA yK
  rcases YN hg hp hi with c | c
  ·obtain ⟨a1, a2⟩ := c.abv nz
   rw [a2] at bv
   refine ⟨o, ?_, by rw [a1]; exact h2⟩
   simp only [shB, ji, uE, yu, jj, g0d, g0e, Nat.reduceAdd, if_true, g0j, g0h, g0a, yH, yn, zD, zm, zv, yk, g0c, g0b, w4, XE, YM, zq, ct]
   simp only [wp, sv, lv, bv, g0a, g0l, if_false, x8]
   unfold shB zq at h1
   exact h1
  ·obtain ⟨a1, a2⟩ := c.blw nz
   rw [a2] at bv
   refine ⟨.rt (.bl false), ?_, by rw [a1]; rfl⟩
   simp only [shB, ji, uE, yu, jj, g0d, g0e, Nat.reduceAdd, if_true, g0j, g0h, g0a, yH, yn, zD, zm, zv, yk, g0c, g0b, w4, XE, YM, zq, ct]
   simp only [wp, sv, lv, bv, g0a, if_true, zR, xc]
theorem U6 (n : Nat) {ts : List T3} (hg : yw ts) (hn : n <= 6) {w : List Nat} (hw : InW n w) (hl : w.length <= 100) : xR [zj n ts, zq w] = some (.bl ((xW ts n [] w).all id)) := by
 obtain ⟨o, h1, h2⟩ := Zs n hg hn w hw hl w [] .no .no rfl
 rw [g0e, <- Y7] at h1
 have it : qd (vF 1) [.fr (zj n ts), .fr (zq w), .no, .no] = some (wR (w.map fun (i : Nat) => .int (i : Int))) := by
  simp only [kI, yB, yk, g0c, g0b, g0a, zq, QY]
 unfold xR qr
 unfold shB at h1
 simp only [zP, zt, g0f, g0o, g0d, g0e, Nat.reduceAdd, Nat.reduceSub, g0g, g0p, g0n, zN, xv, it, g0a]
 rw [h1]
 exact h2
def Fu : Option Nat -> D
 | none => .non
 | some i => .int (i : Int)
theorem Fj (r : List Gd) : MG r = kR r := rfl
noncomputable def fbB : FS := ifS (blF (zO wq (zb (vF 2) zu))) (yv (vF 1)) nxF
theorem J7 (n : Nat) (ts : List T3) (hn : n <= 6) {u : List Nat} (hu : u.length <= 100) (R : D) : ∀ (m i : Nat) (s1 s2 : Slot), i + m = n -> ∃ o, yK (ZT 2 (yU (zJ 1) (yU (zJ 2) Yf))) fbB (ZA i (((List.range' i m).map fun j => yd (zf ts) u (ye n j)).map xu)) [.fr R, s1, s2] = some o ∧
  Qq ((some o).bind fun o => match o with | .nx ρ' => yv (cF .non) ρ' | o => some o) = some (Fu ((List.range' i m).find? fun j => kR (yd (zf ts) u (ye n j))))
 | 0, i, s1, s2, h => ⟨_, rfl, rfl⟩
 | m + 1, i, s1, s2, h => by
  obtain ⟨o, h1, h2⟩ := J7 n ts hn hu R m (i + 1) (.fr (.int i)) (.fr (xu (yd (zf ts) u (ye n i)))) (by omega)
  have bv := Kq (r := yd (zf ts) u (ye n i)) (by rw [zG, zh]; omega) (JN ts hn hu i)
  rw [Fj] at bv
  rw [List.range'_succ, g0f, g0f]
  unfold ZA yK
  by_cases c : kR (yd (zf ts) u (ye n i)) = true
  ·rw [c] at bv
   refine ⟨.rt (.int i), ?_, by rw [List.find?_cons_of_pos (by exact c)]; rfl⟩
   simp only [fbB, ji, uE, yu, jj, g0d, g0e, Nat.reduceAdd, if_true, g0j, g0h, g0a, yH, yn, zD, zm, zv, yk, g0c, g0b, bv, zR]
  ·rw [Bool.not_eq_true] at c
   rw [c] at bv
   refine ⟨o, ?_, by rw [List.find?_cons_of_neg (by simp [c])]; exact h2⟩
   simp only [fbB, ji, uE, yu, jj, g0d, g0e, Nat.reduceAdd, if_true, g0j, g0h, g0a, yH, yn, zD, zm, zv, yk, g0c, g0b, bv, g0l, if_false, x8]
   unfold fbB at h1
   exact h1
theorem HB (n : Nat) (ts : List T3) (hn : n <= 6) {u : List Nat} (hu : u.length <= 100) : yR [vx (qS ts n u)] = some (Fu (qf ts n u)) := by
 obtain ⟨o, h1, h2⟩ := J7 n ts hn hu (vx (qS ts n u)) n 0 .no .no (by omega)
 rw [<- List.range_eq_range'] at h1 h2
 rw [<- Y7] at h1
 have it : qd (vF 0) [.fr (vx (qS ts n u)), .no, .no] = some (wR (((g1e n).map fun j => yd (zf ts) u (ye n j)).map xu)) := by
  simp only [kI, yB, yk, g0b, g0a, vx, XD]
  rfl
 unfold yR uM
 unfold fbB at h1
 simp only [zP, zt, g0f, g0o, g0d, g0e, Nat.reduceAdd, Nat.reduceSub, g0g, g0p, g0n, zN, xv, it, g0a]
 rw [h1]
 exact h2
noncomputable def leB : FS := (yh (qp 2 (vF 4)) (yh (xb 3 (zO zH (zb (vF 0) (zb (vF 3) (zb (vF 4) zu))))) (xb 4 (zO yR (zb (vF 3) zu)))))
theorem BR (n : Nat) {ts : List T3} (hg : yw ts) (hn : n <= 6) (W : D) {u v : List Nat} (h : Lst ts n u v) : ∀ (T : List Nat) (k : Nat), InW n u -> u.length + v.length <= 100 -> T.length + v.length <= 100 -> v.length < k -> ∃ s3 s4, jc (blF (zc (isD true) (vF 4) (cF .non))) leB k [.fr (zj n ts), .fr W, .ol (T.map fun (i : Nat) => .int (i : Int)), .fr (vx (qS ts n u)), .fr (Fu (qf ts n u))] =
  some (.nx [.fr (zj n ts), .fr W, .ol ((T ++ v).map fun (i : Nat) => .int (i : Int)), s3, s4]) := by
 induction h with
 | @nil u h =>
  intro T k hu h1 h2 h3
  cases k with
  | zero => simp at h3
  | succ k =>
   refine ⟨.fr (vx (qS ts n u)), .fr .non, ?_⟩
   rw [h, g0t]
   rfl
 | @cons u v i h t ih =>
  intro T k hu h1 h2 h3
  rw [g0d] at h1 h2 h3
  cases k with
  | zero => omega
  | succ k =>
   obtain ⟨hi, _, _⟩ := uH h
   obtain ⟨s3, s4, e⟩ := ih (T ++ [i]) k (hu.app (InW.one hi)) (by rw [g0i, g1k]; omega) (by rw [g0i, g1k]; omega) (by omega)
   refine ⟨s3, s4, ?_⟩
   have bv := Yq n hg (by omega) hu hi
   have fv := HB n ts hn (u := u ++ [i]) (by rw [g0i, g1k]; omega)
   have z : (T.map fun (i : Nat) => D.int (i : Int)).length < sizeLine := ua (by simp; omega)
   have nn : isD true (.int (i : Int)) .non = some (.bl true) := rfl
   have em : (T ++ [i]).map (fun (i : Nat) => D.int (i : Int)) = T.map (fun (i : Nat) => D.int (i : Int)) ++ [D.int (i : Int)] := by simp
   rw [em, g0x, g2v] at e
   rw [h]
   unfold jc
   simp only [yn, zp, yk, xc, g0c, g0b, g0a, Fu, nn, if_true, leB, zN, XH, if_pos z, g0j, g0h, yj, zD, zm, zv, bv, fv]
   unfold leB at e
   exact e
theorem X4 (n : Nat) {ts : List T3} (hg : yw ts) (hn : n <= 6) {w v : List Nat} (hw : InW n w) (h : Lst ts n w.reverse v) (hl : w.length <= 50) (hv : v.length <= 50) : vX [zj n ts, zq w] = some (zq v) := by
 have iv := Zh n hg (w := w.reverse) (by omega) hw.rev
 have fv := HB n ts hn (u := w.reverse) (by rw [g1s]; omega)
 obtain ⟨s3, s4, e⟩ := BR n hg hn (zq w) h [] 100000 hw.rev (by rw [g1s]; omega) (by simp; omega) (by omega)
 have z0 : 0 <= sizeLine := g2e _
 have rt : ∀ ρ : Rho, ρ[1]? = some (.fr (zq w)) -> Ft (vF 1) ρ = some (zq w.reverse) := fun ρ hρ => by
  simp only [CQ, yk, hρ, g0a, zq]
  simp
 have rt' := rt [.fr (zj n ts), .fr (zq w), .ol [], .no, .no] rfl
 rw [g0o, g0n] at e
 unfold vX VC
 unfold leB at e
 generalize 100000 = FU at e ⊢
 simp only [zP, zt, g0f, g0o, g0d, g0e, Nat.reduceAdd, Nat.reduceSub, g0g, g0p, g0n, zN, XG, XF, zv, g0a, if_pos z0, g0j, g0h, yj, zD, zm, rt', yk, g0b, g0c, iv, fv]
 rw [e]
 simp only [g0a, zR, zD, zm, zv, MO, g0b, g0c, QW, z9]
 rfl
theorem JJ (h : D) (i j : Int) : ∀ (ts : List T3) (s1 s2 s3 : Slot), ∃ o, yK (ZT 3 (yU (zJ 3) (yU (zJ 4) (yU (zJ 5) Yf)))) (ifS (blF (zc eqF (tupF (zb (vF 3) (zb (vF 4) zu))) (tupF (zb (zO Hu (zb (vF 1) (zb (vF 2) zu))) (zb (zO Hv (zb (vF 1) (zb (vF 2) zu))) zu))))) (yv (vF 5)) nxF)
  (ts.map tD) [.fr h, .fr (.int i), .fr (.int j), s1, s2, s3] = some o /\ Qq ((some o).bind fun o => match o with | .nx ρ' => yv (cF (.int 2)) ρ' | o => some o) = some (.int (yJ ts i j))
 | [], s1, s2, s3 => ⟨_, rfl, rfl⟩
 | t :: ts, s1, s2, s3 => by
  obtain ⟨o, h1, h2⟩ := JJ h i j ts (.fr (.int t.1)) (.fr (.int t.2.1)) (.fr (.int t.2.2))
  have z2 : 0 + 1 + 1 <= sizeLine := szl (by decide)
  have e := eq2 t.1 t.2.1 (if j < i then j else i) (if j > i then j else i)
  rw [g0f]
  unfold yK yJ
  by_cases c : t.1 = mlo i j /\ t.2.1 = mhi i j
  ·have c' : t.1 = (if j < i then j else i) /\ t.2.1 = (if j > i then j else i) := c
   refine ⟨.rt (.int t.2.2), ?_, by rw [if_pos c]; rfl⟩
   have e0 : (decide (t.1 = (if j < i then j else i) /\ t.2.1 = (if j > i then j else i))) = true := decide_eq_true c'
   simp only [tD, ji, uE, yu, jj, g0d, g0e, Nat.reduceAdd, if_true, g0j, g0h, g0a, yH, yn, zp, x6, zm, zv, yk, g0c, g0b, zD, KS, KU, if_pos z2, if_pos (szl (n := 2) (by decide)), e, e0, zR]
  ·have c' : ¬ (t.1 = (if j < i then j else i) /\ t.2.1 = (if j > i then j else i)) := c
   refine ⟨o, ?_, by rw [if_neg c]; exact h2⟩
   simp only [tD, ji, uE, yu, jj, g0d, g0e, Nat.reduceAdd, if_true, g0j, g0h, g0a, yH, yn, zp, x6, zm, zv, yk, g0c, g0b, zD, KS, KU, if_pos z2, if_pos (szl (n := 2) (by decide)), e, c', decide_false, g0l, if_false, x8]
   exact h1
theorem Dw (n : Nat) (ts : List T3) (i j : Int) : X9 [zj n ts, .int i, .int j] = some (.int (yJ ts i j)) := by
 obtain ⟨o, h1, h2⟩ := JJ (zj n ts) i j ts .no .no .no
 have e : ixD (zj n ts) (.int 1) = some (.lst (ts.map tD)) := by unfold zj; exact ix1
 unfold X9 Cu
 simp only [zP, zt, g0f, g0o, g0d, g0e, Nat.reduceAdd, Nat.reduceSub, g0g, g0p, g0n, zN, xv, yB, zp, yk, xc, g0b, g0c, g0a, e, XD]
 rw [h1]
 exact h2
def Dh (p : List Nat) : D := .lst (p.map fun (i : Nat) => .int (i : Int))
theorem Dg (p : List Nat) : dep (Dh p) <= 100 := by
 have : uV (p.map fun (i : Nat) => D.int (i : Int)) <= 0 := jZ fun d hd => by
  obtain ⟨x, _, rfl⟩ := g2k.mp hd
  simp [dep]
 unfold Dh dep
 omega
theorem Km {f : FE} {C : List Slot} {φ : Nat -> D} : ∀ (l : List Nat) (s : Slot), (∀ i ∈ l, f (.fr (.int (i : Int)) :: C) = some (φ i)) -> xS (zJ 0) ttF f (l.map fun (i : Nat) => D.int (i : Int)) (s :: C) = some (l.map φ)
 | [], _, _ => rfl
 | i :: l, s, h => by
  have h0 := h i g0s
  have ih := Km (φ := φ) l (.fr (.int (i : Int))) fun j hj => h j (g0m _ hj)
  rw [g0f]
  unfold xS
  simp only [yu, g0h, g0a, HV, if_true, h0, ih]
  rfl
theorem vZ (u v : List Nat) (h : u.length + v.length <= 100) : yV (zq u) (zq v) = some (zq (u ++ v)) := by
 show (if _ then _ else _) = _
 rw [if_pos (szl (by simp; omega))]
 simp [zq]
theorem Cj {α : Type} (xs : List α) (a b : Nat) (h : a <= b) : jC xs (some (a : Int)) (some (b : Int)) = (xs.drop a).take (b - a) := by
 unfold jC
 rw [HT.sIx_nat, HT.sIx_nat]
 by_cases h1 : a <= xs.length
 ·by_cases h2 : b <= xs.length
  ·rw [g2p h1, g2p h2]
  ·rw [g2p h1, g3a (by omega), g2d (by simp), g2d (by simp; omega)]
 ·rw [g3a (by omega), g3a (by omega), g1z (g0r _), g1z (by omega)]
  simp
theorem Qv (w : List Nat) (k : Nat) : D.tup (jC (w.map fun (i : Nat) => D.int (i : Int)) none (some (k : Int))) = zq (w.take k) := by
 rw [kP, <- List.map_take]; rfl
theorem Xr (w : List Nat) (k : Nat) : D.tup (jC (w.map fun (i : Nat) => D.int (i : Int)) (some (k : Int)) none) = zq (w.drop k) := by
 rw [kQ, <- List.map_drop]; rfl
theorem KC (w : List Nat) (a b : Nat) (h : a <= b) : D.tup (jC (w.map fun (i : Nat) => D.int (i : Int)) (some (a : Int)) (some (b : Int))) = zq ((w.drop a).take (b - a)) := by
 rw [Cj _ _ _ h, <- List.map_drop, <- List.map_take]; rfl
theorem jH {f : FE} {ρ : Rho} {w : List Nat} {k : Nat} {g : FE} (hf : f ρ = some (zq w)) (hg : g ρ = some (.int (k : Int))) : ym f noP (exP g) ρ = some (zq (w.take k)) := by
 simp only [w4, hf, XE, YM, hg, g0a, zq]
 exact congrArg some (Qv w k)
theorem YJ {f : FE} {ρ : Rho} {w : List Nat} {k : Nat} {g : FE} (hf : f ρ = some (zq w)) (hg : g ρ = some (.int (k : Int))) : ym f (exP g) noP ρ = some (zq (w.drop k)) := by
 simp only [w4, hf, XE, YM, hg, g0a, zq]
 exact congrArg some (Xr w k)
theorem VN {f : FE} {ρ : Rho} {w : List Nat} {a b : Nat} {g h : FE} (hf : f ρ = some (zq w)) (hg : g ρ = some (.int (a : Int))) (hh : h ρ = some (.int (b : Int))) (hab : a <= b) : ym f (exP g) (exP h) ρ = some (zq ((w.drop a).take (b - a))) := by
 simp only [w4, hf, YM, hg, hh, g0a, zq]
 exact congrArg some (KC w a b hab)
inductive Mv where
 | drop (p : Int)
 | turn (p i j : Int)
def mvD : Mv -> D
 | .drop p => .tup [.str "drop", .int p]
 | .turn p i j => .tup [.str "turn", .int p, .int i, .int j]
def Yr (i j m : Nat) : List Nat := (g1e m).map fun k => if k % 2 = 0 then i else j
theorem wA (i j m : Nat) : (Yr i j m).length = m := by simp [Yr]
theorem Cp {n i j : Nat} (hi : i < n) (hj : j < n) (m : Nat) : InW n (Yr i j m) := fun k hk => by
 obtain ⟨a, _, rfl⟩ := g2k.mp hk
 split <;> assumption
def Y9 (w : List Nat) (p : Int) : Option (List Nat) := if 0 <= p /\ p < (w.length : Int) - 1 /\ w[p.toNat]? = w[p.toNat + 1]? then some (w.take p.toNat ++ w.drop (p.toNat + 2)) else none
def Yw (ts : List T3) (n : Nat) (w : List Nat) (p i j : Int) : Option (List Nat) := if 0 <= p /\ p < (w.length : Int) /\ (0 <= i /\ i < (n : Int)) /\ (0 <= j /\ j < (n : Int)) /\ i ≠ j /\ yJ ts i j ≠ 0 /\ (w.drop p.toNat).take (yJ ts i j).toNat = Yr i.toNat j.toNat (yJ ts i j).toNat then
      some (w.take p.toNat ++ Yr j.toNat i.toNat (yJ ts i j).toNat ++ w.drop (p.toNat + (yJ ts i j).toNat)) else none
def U1 (ts : List T3) (n : Nat) (w : List Nat) : Mv -> Option (List Nat)
 | .drop p => Y9 w p
 | .turn p i j => Yw ts n w p i j
def xa : Option (List Nat) -> D
 | none => .non
 | some w => zq w
theorem JB {ts : List T3} {n : Nat} {w w' : List Nat} {mv : Mv} (hw : InW n w) (h : U1 ts n w mv = some w') : InW n w' /\ w'.length <= w.length := by
 cases mv with
 | drop p =>
  change Y9 w p = some w' at h
  unfold Y9 at h
  split at h
  ·cases h
   refine ⟨(InW.app (fun x hx => hw x (g2n hx)) fun x hx => hw x (g2j hx)), ?_⟩
   rw [g0i, g1i, g1v]
   omega
  ·cases h
 | turn p i j =>
  change Yw ts n w p i j = some w' at h
  unfold Yw at h
  split at h
  ·rename_i c
   obtain ⟨c1, c2, ⟨c3, c4⟩, ⟨c5, c6⟩, c7, c8, c9⟩ := c
   cases h
   have hl := congrArg g3c c9
   rw [wA, g1i, g1v] at hl
   refine ⟨(InW.app (fun x hx => hw x (g2n hx)) (Cp (by omega) (by omega) _)).app fun x hx => hw x (g2j hx), ?_⟩
   rw [g0i, g0i, wA, g1i, g1v]
   omega
  ·cases h
theorem Kb (u v : List Nat) : eqD (zq u) (zq v) = decide (u = v) := by
 have gen : ∀ u v : List Nat, Xp (u.map fun (i : Nat) => D.int (i : Int)) (v.map fun (i : Nat) => D.int (i : Int)) = decide (u = v) := by
  intro u
  induction u with
  | nil => intro v; cases v <;> simp [Xp]
  | cons x u ih =>
   intro v
   cases v with
   | nil => simp [Xp]
   | cons y v =>
    simp only [g0f, Xp, eqD, ih v]
    by_cases h : x = y <;> by_cases h' : u = v <;> simp [h, h']
    omega
 unfold zq eqD
 exact gen u v
theorem Xs (w : List Nat) : dep (zq w) <= 100 := by
 have : uV (w.map fun (i : Nat) => D.int (i : Int)) <= 0 := jZ fun d hd => by
  obtain ⟨x, _, rfl⟩ := g2k.mp hd
  simp [dep]
 unfold zq dep
 omega
theorem Vd (u v : List Nat) : neF (zq u) (zq v) = some (.bl (!decide (u = v))) := by
 unfold neF
 rw [if_pos (Xs u), Kb]
theorem D5 : eqF (.str "drop") (.str "drop") = some (.bl true) := by
 unfold eqF; rw [if_pos (by simp [dep])]; simp [eqD]
theorem D4 : eqF (.str "turn") (.str "drop") = some (.bl false) := by
 unfold eqF; rw [if_pos (by simp [dep])]; unfold eqD; congr 2
theorem jS (i j : Int) (a b m : Nat) (hi : i = (a : Int)) (hj : j = (b : Int)) (hm : m <= 100) : zF [.int i, .int j, .int (m : Int)] = some (zq (Yr a b m)) := by
 subst hi hj
 have ra : wV [.int (m : Int)] = some ((g1e m).map fun (i : Nat) => D.int (i : Int)) := by
  rw [y8 (by omega) (by omega)]
  simp [zY]
 have hi : YO (zb (vF 2) zu) [.fr (.int (a : Int)), .fr (.int (b : Int)), .fr (.int (m : Int))] = some ((g1e m).map fun (i : Nat) => D.int (i : Int)) := by
  simp only [ue, zm, zv, yk, g0c, g0b, g0a, ra]
 have hc := w9 (n := 1) (caps := [0, 1]) (γ := zJ 0) (ft := ttF) (f := ifF (blF (zc eqF (zc qQ (vF 0) (cF (.int 2))) (cF (.int 0)))) (vF 1) (vF 2)) hi (szl (by simpa using hm))
 have cs : vY 1 [0, 1] [.fr (.int (a : Int)), .fr (.int (b : Int)), .fr (.int (m : Int))] = [.no, .fr (.int (a : Int)), .fr (.int (b : Int))] := rfl
 rw [cs, Km (φ := fun k => D.int ((if k % 2 = 0 then a else b : Nat) : Int)) (g1e m) .no (fun k _ => by
  have q := y4 (i := (k : Int)) (show (0 : Int) < 2 by decide)
  by_cases c : k % 2 = 0
  ·have c' : (k : Int) % 2 = 0 := by omega
   simp only [CV, yn, zp, yk, xc, g0c, g0b, g0a, q, uo, c', decide_true, if_true, c]
  ·have c' : ¬ ((k : Int) % 2 = 0) := by omega
   simp only [CV, yn, zp, yk, xc, g0c, g0b, g0a, q, uo, c', decide_false, g0l, if_false, c])] at hc
 simp only [zF, ZS, zP, zt, g0f, g0o, g0d, g0e, Nat.reduceAdd, Nat.reduceSub, g0g, g0t, zR, zD, zm, xX, hc, zv, g0a, g1o, QW, z9]
 unfold zq Yr
 rw [g1n]
 rfl
theorem GU {n : Nat} (ts : List T3) {w : List Nat} (hl : w.length <= 60) (p : Int) : yS [zq w, .int p] = some (xa (U1 ts n w (.drop p))) := by
 have hlw : WG [zq w] = some (.int (w.length : Int)) := by simp [zq]
 show _ = some (xa (Y9 w p))
 unfold Y9
 by_cases c1 : 0 <= p /\ p < (w.length : Int) - 1
 ·obtain ⟨k, rfl⟩ : ∃ k : Nat, p = (k : Int) := ⟨p.toNat, by omega⟩
  have hk : k + 1 < w.length := by omega
  have e0 : (k : Int).toNat = k := by omega
  rw [e0]
  have x1 : ixD (zq w) (.int (k : Int)) = some (.int (w[k] : Int)) := Wy (by rw [g0w, g0z (by omega)]; rfl)
  have ek : (k : Int) + 1 = ((k + 1 : Nat) : Int) := by omega
  have x2 : ixD (zq w) (.int ((k + 1 : Nat) : Int)) = some (.int (w[k + 1] : Int)) := Wy (by rw [g0w, g0z (by omega)]; rfl)
  rw [g0z (show k < w.length by omega), g0z hk]
  by_cases c2 : w[k] = w[k + 1]
  ·have c3 : ((w[k] : Nat) : Int) = ((w[k + 1] : Nat) : Int) := by rw [c2]
   rw [if_pos ⟨c1.1, c1.2, by rw [c2]⟩]
   have t1 := jH (f := vF 0) (g := vF 1) (ρ := [.fr (zq w), .fr (.int (k : Int))]) (w := w) (k := k) rfl rfl
   have t2 := YJ (f := vF 0) (g := zc yV (vF 1) (cF (.int 2))) (ρ := [.fr (zq w), .fr (.int (k : Int))]) (w := w) (k := k + 2) rfl (by
    simp only [zp, yk, xc, g0c, g0b, g0a, qG]
    congr 2)
   have a1 := vZ (w.take k) (w.drop (k + 2)) (by rw [g1i, g1v]; omega)
   simp only [yS, xT, zP, zt, g0f, g0o, g0d, g0e, Nat.reduceAdd, Nat.reduceSub, g0g, g0t, zN, yH, xK, yn, yy, xc, yk, zp, zD, zm, zv, g0c, g0b, g0a, hlw, QX, YK, kC, c1.1, c1.2, decide_true, g1l, g0l, if_false, x8, x1, qG, ek, x2, CT, c3, zR, t1, t2, a1, z9, xa]
  ·have c3 : ¬ (((w[k] : Nat) : Int) = ((w[k + 1] : Nat) : Int)) := by omega
   rw [if_neg (fun h => c2 (by simpa using h.2.2))]
   simp only [yS, xT, zP, zt, g0f, g0o, g0d, g0e, Nat.reduceAdd, Nat.reduceSub, g0g, g0t, zN, yH, xK, yn, yy, xc, yk, zp, zD, zm, zv, g0c, g0b, g0a, hlw, QX, YK, kC, c1.1, c1.2, decide_true, g1l, g0l, if_false, x8, x1, qG, ek, x2, CT, c3, decide_false, g1p, if_true, zR, z9, xa]
 ·rw [if_neg (fun h => c1 ⟨h.1, h.2.1⟩)]
  by_cases c0 : 0 <= p
  ·have c2 : ¬ (p < (w.length : Int) - 1) := fun h => c1 ⟨c0, h⟩
   simp only [yS, xT, zP, zt, g0f, g0o, g0d, g0e, Nat.reduceAdd, Nat.reduceSub, g0g, g0t, zN, yH, xK, yn, yy, xc, yk, zp, zD, zm, zv, g0c, g0b, g0a, hlw, QX, YK, kC, c0, c2, decide_true, decide_false, g1p, if_true, zR, z9, xa]
  ·simp only [yS, xT, zP, zt, g0f, g0o, g0d, g0e, Nat.reduceAdd, Nat.reduceSub, g0g, g0t, zN, yH, xK, yn, yy, xc, yk, zp, zD, zm, zv, g0c, g0b, g0a, hlw, QX, YK, kC, c0, decide_false, g1p, if_true, zR, z9, xa]
theorem kq (n : Nat) (ts : List T3) (i : Int) : xj [zj n ts, .int i] = some (.bl (decide (0 <= i /\ i < (n : Int)))) := by
 have en : ixD (zj n ts) (.int 0) = some (.int n) := by unfold zj; exact ix0
 by_cases c0 : 0 <= i
 ·simp only [xj, uL, zP, zt, g0f, g0o, g0d, g0e, Nat.reduceAdd, Nat.reduceSub, g0g, g0t, zR, yy, xc, yk, zp, g0c, g0b, g0a, YK, c0, decide_true, en, kC, z9, true_and]
 ·simp only [xj, uL, zP, zt, g0f, g0o, g0d, g0e, Nat.reduceAdd, Nat.reduceSub, g0g, g0t, zR, yy, xc, yk, zp, g0c, g0b, g0a, YK, c0, decide_false, z9, false_and]
theorem QC (n : Nat) {ts : List T3} (hg : yw ts) {w : List Nat} (hl : w.length <= 60) (p i j : Int) : yg [zj n ts, zq w, .int p, .int i, .int j] = some (xa (U1 ts n w (.turn p i j))) := by
 have hlw : WG [zq w] = some (.int (w.length : Int)) := by simp [zq]
 have mi := kq n ts i
 have mj := kq n ts j
 have tv := Yv n ts i j
 have hm := v7 hg i j
 show _ = some (xa (Yw ts n w p i j))
 unfold Yw
 by_cases c0 : 0 <= p
 ·by_cases c1 : p < (w.length : Int)
  ·obtain ⟨k, rfl⟩ : ∃ k : Nat, p = (k : Int) := ⟨p.toNat, by omega⟩
   have e0 : (k : Int).toNat = k := by omega
   rw [e0]
   by_cases c2 : 0 <= i /\ i < (n : Int)
   ·rw [decide_eq_true c2] at mi
    by_cases c3 : 0 <= j /\ j < (n : Int)
    ·rw [decide_eq_true c3] at mj
     by_cases c4 : i = j
     ·rw [if_neg (fun h => h.2.2.2.2.1 c4)]
      simp only [yg, yA, zP, zt, g0f, g0o, g0d, g0e, Nat.reduceAdd, Nat.reduceSub, g0g, g0p, g0n, zN, yH, vK, xK, yn, yy, xc, yk, zp, zD, zm, zv, g0c, g0b, g0a, hlw, YK, kC, c0, c1, decide_true, g1l, g0l, if_false, x8, mi, mj, uo, c4, if_true, zR, z9, xa]
     ·obtain ⟨m, em⟩ : ∃ m : Nat, yJ ts i j = (m : Int) := ⟨(yJ ts i j).toNat, by omega⟩
      rw [em] at tv hm ⊢
      have e1 : (m : Int).toNat = m := by omega
      rw [e1]
      by_cases c5 : m = 0
      ·rw [if_neg (fun h => h.2.2.2.2.2.1 (by omega))]
       have c5' : (m : Int) = 0 := by omega
       simp only [yg, yA, zP, zt, g0f, g0o, g0d, g0e, Nat.reduceAdd, Nat.reduceSub, g0g, g0p, g0n, zN, yH, vK, xK, yn, yy, xc, yk, zp, zD, zm, zv, g0c, g0b, g0a, hlw, YK, kC, c0, c1, decide_true, g1l, g0l, if_false, x8, mi, mj, uo, c4, decide_false, yj, tv, g0j, g0h, qG, c5', if_true, zR, z9, xa]
      ·have c5' : ¬ ((m : Int) = 0) := by omega
       have ekm : (k : Int) + (m : Int) = ((k + m : Nat) : Int) := by omega
       have i1 := jS i j i.toNat j.toNat m (by omega) (by omega) (by omega)
       have i2 := jS j i j.toNat i.toNat m (by omega) (by omega) (by omega)
       have t1 := jH (f := vF 1) (g := vF 2) (ρ := [.fr (zj n ts), .fr (zq w), .fr (.int (k : Int)), .fr (.int i), .fr (.int j), .fr (.int (m : Int)), .fr (.int ((k + m : Nat) : Int))]) (w := w) (k := k) rfl rfl
       have t2 := YJ (f := vF 1) (g := vF 6) (ρ := [.fr (zj n ts), .fr (zq w), .fr (.int (k : Int)), .fr (.int i), .fr (.int j), .fr (.int (m : Int)), .fr (.int ((k + m : Nat) : Int))]) (w := w) (k := k + m) rfl rfl
       have t3 := VN (f := vF 1) (g := vF 2) (h := vF 6) (ρ := [.fr (zj n ts), .fr (zq w), .fr (.int (k : Int)), .fr (.int i), .fr (.int j), .fr (.int (m : Int)), .fr (.int ((k + m : Nat) : Int))]) (w := w) (a := k) (b := k + m) rfl rfl rfl (by omega)
       rw [g3f] at t3
       have nw := Vd ((w.drop k).take m) (Yr i.toNat j.toNat m)
       have a1 := vZ (w.take k) (Yr j.toNat i.toNat m) (by rw [g1i, wA]; omega)
       have a2 := vZ (w.take k ++ Yr j.toNat i.toNat m) (w.drop (k + m)) (by rw [g0i, g1i, g1v, wA]; omega)
       by_cases c6 : (w.drop k).take m = Yr i.toNat j.toNat m
       ·rw [decide_eq_true c6, g1l] at nw
        rw [if_pos ⟨c0, c1, c2, c3, c4, c5', c6⟩]
        simp only [yg, yA, zP, zt, g0f, g0o, g0d, g0e, Nat.reduceAdd, Nat.reduceSub, g0g, g0p, g0n, zN, yH, vK, xK, yn, yy, xc, yk, zp, zD, zm, zv, g0c, g0b, g0a, hlw, YK, kC, c0, c1, decide_true, g1l, g0l, if_false, x8, mi, mj, uo, c4, decide_false, yj, tv, g0j, g0h, qG, ekm, c5', t3, i1, nw, zR, t1, i2, a1, t2, a2, z9, xa]
       ·rw [decide_eq_false c6, g1p] at nw
        rw [if_neg (fun h => c6 h.2.2.2.2.2.2)]
        simp only [yg, yA, zP, zt, g0f, g0o, g0d, g0e, Nat.reduceAdd, Nat.reduceSub, g0g, g0p, g0n, zN, yH, vK, xK, yn, yy, xc, yk, zp, zD, zm, zv, g0c, g0b, g0a, hlw, YK, kC, c0, c1, decide_true, g1l, g0l, if_false, x8, mi, mj, uo, c4, decide_false, yj, tv, g0j, g0h, qG, ekm, c5', t3, i1, nw, if_true, zR, z9, xa]
    ·rw [decide_eq_false c3] at mj
     rw [if_neg (fun h => c3 h.2.2.2.1)]
     simp only [yg, yA, zP, zt, g0f, g0o, g0d, g0e, Nat.reduceAdd, Nat.reduceSub, g0g, g0p, g0n, zN, yH, vK, xK, yn, yy, xc, yk, zp, zD, zm, zv, g0c, g0b, g0a, hlw, YK, kC, c0, c1, decide_true, g1l, g0l, if_false, x8, mi, mj, g1p, if_true, zR, z9, xa]
   ·rw [decide_eq_false c2] at mi
    rw [if_neg (fun h => c2 h.2.2.1)]
    simp only [yg, yA, zP, zt, g0f, g0o, g0d, g0e, Nat.reduceAdd, Nat.reduceSub, g0g, g0p, g0n, zN, yH, vK, xK, yn, yy, xc, yk, zp, zD, zm, zv, g0c, g0b, g0a, hlw, YK, kC, c0, c1, decide_true, g1l, g0l, if_false, x8, mi, g1p, if_true, zR, z9, xa]
  ·rw [if_neg (fun h => c1 h.2.1)]
   simp only [yg, yA, zP, zt, g0f, g0o, g0d, g0e, Nat.reduceAdd, Nat.reduceSub, g0g, g0p, g0n, zN, yH, vK, xK, yn, yy, xc, yk, zp, zD, zm, zv, g0c, g0b, g0a, hlw, YK, kC, c0, c1, decide_true, decide_false, g1p, if_true, zR, z9, xa]
 ·rw [if_neg (fun h => c0 h.1)]
  simp only [yg, yA, zP, zt, g0f, g0o, g0d, g0e, Nat.reduceAdd, Nat.reduceSub, g0g, g0p, g0n, zN, yH, vK, xK, yn, yy, xc, yk, zp, zD, zm, zv, g0c, g0b, g0a, hlw, YK, kC, c0, decide_false, g1p, if_true, zR, z9, xa]
theorem ix2 {x y z : D} {l : List D} : ixD (.tup (x :: y :: z :: l)) (.int 2) = some z := uJ (xs := x :: y :: z :: l) (j := 2) (v := z) rfl
theorem ix3 {x y z t : D} {l : List D} : ixD (.tup (x :: y :: z :: t :: l)) (.int 3) = some t := uJ (xs := x :: y :: z :: t :: l) (j := 3) (v := t) rfl
theorem V5 (n : Nat) {ts : List T3} (hg : yw ts) {w : List Nat} (hl : w.length <= 60) (mv : Mv) : zl [zj n ts, zq w, mvD mv] = some (xa (U1 ts n w mv)) := by
 cases mv with
 | drop p =>
  have dv := GU (n := n) ts hl p
  have es := D5
  simp only [zl, vS, zP, zt, g0f, g0o, g0d, g0e, Nat.reduceAdd, Nat.reduceSub, g0g, g0t, zN, yH, yn, zp, yk, xc, zD, zm, zv, g0c, g0b, g0a, mvD, ix0, ix1, es, if_true, zR, dv, z9]
 | turn p i j =>
  have dv := QC n hg hl p i j
  have es := D4
  simp only [zl, vS, zP, zt, g0f, g0o, g0d, g0e, Nat.reduceAdd, Nat.reduceSub, g0g, g0t, zN, yH, yn, zp, yk, xc, zD, zm, zv, g0c, g0b, g0a, mvD, ix0, ix1, ix2, ix3, es, g0l, if_false, x8, zR, dv, z9]
def wZ (ts : List T3) (n : Nat) : List Nat -> List Mv -> Option (List Nat)
 | w, [] => some w
 | w, mv :: ms => match U1 ts n w mv with
  | none => none
  | some w' => wZ ts n w' ms
noncomputable def waB : FS := (yh (xb 1 (zO zl (zb (vF 0) (zb (vF 1) (zb (vF 3) zu))))) (ifS (blF (zc (isD false) (vF 1) (cF .non))) (yv (cF .non)) nxF))
theorem QB (n : Nat) {ts : List T3} (hg : yw ts) (a2 : Slot) : ∀ (ms : List Mv) (w : List Nat) (s3 : Slot), InW n w -> w.length <= 60 -> ∃ o, yK (zJ 3) waB (ms.map mvD) [.fr (zj n ts), .fr (zq w), a2, s3] = some o ∧
  Qq ((some o).bind fun o => match o with | .nx ρ' => yv (vF 1) ρ' | o => some o) = some (xa (wZ ts n w ms))
 | [], w, s3, hw, hl => ⟨_, rfl, rfl⟩
 | mv :: ms, w, s3, hw, hl => by
  have mval := V5 n hg hl mv
  rw [g0f]
  unfold yK wZ
  cases c : U1 ts n w mv with
  | none =>
   rw [c] at mval
   have nn : isD false .non .non = some (.bl true) := rfl
   refine ⟨.rt .non, ?_, rfl⟩
   simp only [waB, yu, zN, yj, zD, zm, zv, yk, xc, g0c, g0b, g0a, g0j, g0h, mval, xa, yH, yn, zp, nn, if_true, zR]
  | some w' =>
   rw [c] at mval
   obtain ⟨h1, h2⟩ := JB hw c
   obtain ⟨o, e1, e2⟩ := QB n hg a2 ms w' (.fr (mvD mv)) h1 (by omega)
   have nn : isD false (zq w') .non = some (.bl false) := rfl
   refine ⟨o, ?_, e2⟩
   simp only [waB, yu, zN, yj, zD, zm, zv, yk, xc, g0c, g0b, g0a, g0j, g0h, mval, xa, yH, yn, zp, nn, g0l, if_false, x8]
   unfold waB at e1
   exact e1
theorem Uy (n : Nat) {ts : List T3} (hg : yw ts) {w : List Nat} (hw : InW n w) (hl : w.length <= 60) (ms : List Mv) : uG [zj n ts, zq w, .lst (ms.map mvD)] = some (xa (wZ ts n w ms)) := by
 obtain ⟨o, e1, e2⟩ := QB n hg (.fr (.lst (ms.map mvD))) ms w .no hw hl
 unfold uG Xj
 unfold waB at e1
 simp only [zP, zt, g0f, g0o, g0d, g0e, Nat.reduceAdd, Nat.reduceSub, g0g, g0p, g0n, zN, xv, yB, yk, g0c, g0b, g0a, XD]
 rw [e1]
 exact e2
theorem XN (i j : Nat) : ∀ k, YU i j k = (g0g k [i, j]).flatten
 | 0 => rfl
 | k + 1 => by rw [g1r, g2l, <- XN i j k]; rfl
theorem VF {i j k : Nat} (h1 : 1 <= k) (h2 : k <= 40) : Gn (.tup [.int i, .int j]) (.int k) = some (zq (YU i j k)) := by
 show (if _ then _ else _) = _
 have z : ([D.int j].length + 1) * ((k : Int)).toNat <= sizeLine := by
  have : ((k : Int)).toNat = k := by omega
  rw [this]
  exact szl (by simp; omega)
 rw [if_pos ⟨by omega, z⟩]
 have : ((k : Int)).toNat = k := by omega
 rw [this, XN]
 unfold zq
 rw [List.map_flatten, List.map_replicate]
 rfl
theorem Wz (i j : Nat) {m : Nat} (h : m <= 6) : (YU i j m).take m = Yr i j m := by
 match m, h with
 | 0, _ => rfl
 | 1, _ => rfl
 | 2, _ => rfl
 | 3, _ => rfl
 | 4, _ => rfl
 | 5, _ => rfl
 | 6, _ => rfl
theorem Dr {w : List Nat} {k : Nat} (hk : k < w.length) : (w.drop k).take 1 = (w.drop (k + 1)).take 1 ↔ (k : Int) < (w.length : Int) - 1 /\ w[k]? = w[k + 1]? := by
 rw [g1f hk, List.take_succ_cons, List.take_zero, g0z hk]
 by_cases c : k + 1 < w.length
 ·rw [g1f c, List.take_succ_cons, List.take_zero, g0z c]
  simp
  intro _
  omega
 ·rw [g1z (by omega), List.take_nil]
  simp
  omega
theorem U8 (n : Nat) {ts : List T3} (hg : yw ts) {w : List Nat} (hl : w.length <= 60) (mv : Mv) : yE [zj n ts, zq w, mvD mv] = some (xa (U1 ts n w mv)) := by
 have hlw : WG [zq w] = some (.int (w.length : Int)) := by simp [zq]
 have en : ixD (zj n ts) (.int 0) = some (.int n) := by unfold zj; exact ix0
 have z2 : 0 + 1 + 1 <= sizeLine := szl (by decide)
 have z2' : 2 <= sizeLine := szl (by decide)
 cases mv with
 | drop p =>
  have es := D5
  show _ = some (xa (Y9 w p))
  unfold Y9
  by_cases c0 : p < 0
  ·rw [if_neg (fun h => by omega)]
   simp only [yE, xm, mvD, zP, zt, g0f, g0o, g0d, g0e, Nat.reduceAdd, Nat.reduceSub, g0g, g0p, g0n, zN, yj, yH, vK, yn, zp, yk, xc, zD, zm, zv, g0c, g0b, g0a, ix1, g0j, g0h, kC, c0, decide_true, if_true, zR, z9, xa]
  ·by_cases c1 : (w.length : Int) <= p
   ·rw [if_neg (fun h => by omega)]
    simp only [yE, xm, mvD, zP, zt, g0f, g0o, g0d, g0e, Nat.reduceAdd, Nat.reduceSub, g0g, g0p, g0n, zN, yj, yH, vK, yn, zp, yk, xc, zD, zm, zv, g0c, g0b, g0a, ix1, g0j, g0h, kC, c0, decide_false, g0l, if_false, hlw, HX, c1, decide_true, if_true, zR, z9, xa]
   ·obtain ⟨k, rfl⟩ : ∃ k : Nat, p = (k : Int) := ⟨p.toNat, by omega⟩
    have e0 : (k : Int).toNat = k := by omega
    have hk : k < w.length := by omega
    rw [e0]
    have ρ1 := VN (f := vF 1) (g := vF 3) (h := zc yV (vF 3) (cF (.int 1))) (ρ := [.fr (zj n ts), .fr (zq w), .fr (.tup [.str "drop", .int (k : Int)]), .fr (.int (k : Int)), .no, .no, .no]) (w := w) (a := k) (b := k + 1) rfl rfl rfl (by omega)
    have ρ2 := VN (f := vF 1) (g := zc yV (vF 3) (cF (.int 1))) (h := zc yV (vF 3) (cF (.int 2))) (ρ := [.fr (zj n ts), .fr (zq w), .fr (.tup [.str "drop", .int (k : Int)]), .fr (.int (k : Int)), .no, .no, .no]) (w := w) (a := k + 1) (b := k + 2) rfl rfl rfl (by omega)
    have x1 : k + 1 - k = 1 := by omega
    have x2 : k + 2 - (k + 1) = 1 := by omega
    rw [x1] at ρ1
    rw [x2] at ρ2
    have t1 := jH (f := vF 1) (g := vF 3) (ρ := [.fr (zj n ts), .fr (zq w), .fr (.tup [.str "drop", .int (k : Int)]), .fr (.int (k : Int)), .no, .no, .no]) (w := w) (k := k) rfl rfl
    have t2 := YJ (f := vF 1) (g := zc yV (vF 3) (cF (.int 2))) (ρ := [.fr (zj n ts), .fr (zq w), .fr (.tup [.str "drop", .int (k : Int)]), .fr (.int (k : Int)), .no, .no, .no]) (w := w) (k := k + 2) rfl rfl
    have a1 := vZ (w.take k) (w.drop (k + 2)) (by rw [g1i, g1v]; omega)
    have nw := Vd ((w.drop k).take 1) ((w.drop (k + 1)).take 1)
    have oe := Dr hk
    by_cases c2 : (w.drop k).take 1 = (w.drop (k + 1)).take 1
    ·rw [decide_eq_true c2, g1l] at nw
     rw [if_pos ⟨by omega, (oe.mp c2).1, (oe.mp c2).2⟩]
     simp only [yE, xm, mvD, zP, zt, g0f, g0o, g0d, g0e, Nat.reduceAdd, Nat.reduceSub, g0g, g0p, g0n, zN, yj, yH, vK, yn, zp, yk, xc, zD, zm, zv, g0c, g0b, g0a, ix0, ix1, g0j, g0h, kC, c0, decide_false, g0l, if_false, hlw, HX, c1, x8, es, if_true, ρ1, ρ2, nw, zR, t1, t2, a1, z9, xa]
    ·rw [decide_eq_false c2, g1p] at nw
     rw [if_neg (fun h => c2 (oe.mpr h.2))]
     simp only [yE, xm, mvD, zP, zt, g0f, g0o, g0d, g0e, Nat.reduceAdd, Nat.reduceSub, g0g, g0p, g0n, zN, yj, yH, vK, yn, zp, yk, xc, zD, zm, zv, g0c, g0b, g0a, ix0, ix1, g0j, g0h, kC, c0, decide_false, g0l, if_false, hlw, HX, c1, x8, es, if_true, ρ1, ρ2, nw, zR, z9, xa]
 | turn p i j =>
  have es := D4
  have lm := Dw n ts i j
  have hm := v7 hg i j
  show _ = some (xa (Yw ts n w p i j))
  unfold Yw
  by_cases c0 : p < 0
  ·rw [if_neg (fun h => by omega)]
   simp only [yE, xm, mvD, zP, zt, g0f, g0o, g0d, g0e, Nat.reduceAdd, Nat.reduceSub, g0g, g0p, g0n, zN, yj, yH, vK, yn, zp, yk, xc, zD, zm, zv, g0c, g0b, g0a, ix1, g0j, g0h, kC, c0, decide_true, if_true, zR, z9, xa]
  ·by_cases c1 : (w.length : Int) <= p
   ·rw [if_neg (fun h => by omega)]
    simp only [yE, xm, mvD, zP, zt, g0f, g0o, g0d, g0e, Nat.reduceAdd, Nat.reduceSub, g0g, g0p, g0n, zN, yj, yH, vK, yn, zp, yk, xc, zD, zm, zv, g0c, g0b, g0a, ix1, g0j, g0h, kC, c0, decide_false, g0l, if_false, hlw, HX, c1, decide_true, if_true, zR, z9, xa]
   ·obtain ⟨k, rfl⟩ : ∃ k : Nat, p = (k : Int) := ⟨p.toNat, by omega⟩
    have e0 : (k : Int).toNat = k := by omega
    rw [e0]
    have tst : ∀ ρ : Rho, ρ[0]? = some (.fr (zj n ts)) -> ρ[4]? = some (.fr (.int i)) -> ρ[5]? = some (.fr (.int j)) -> orT (blF (zc eqF (vF 4) (vF 5))) (orT (WE (blF (ql leD ltD (cF (.int 0)) (vF 4) (zc ixD (vF 0) (cF (.int 0)))))) (orT (WE (blF (ql leD ltD (cF (.int 0)) (vF 5) (zc ixD (vF 0) (cF (.int 0)))))) (blF (zc eqF (zO X9 (zb (vF 0) (zb (vF 4) (zb (vF 5) zu)))) (cF (.int 0)))))) ρ =
      some (decide (¬ ((0 <= i /\ i < (n : Int)) /\ (0 <= j /\ j < (n : Int)) /\ i ≠ j /\ yJ ts i j ≠ 0))) := by
     intro ρ r0 r4 r5
     by_cases d1 : i = j
     ·simp only [vK, yn, zp, yk, r4, r5, g0a, uo, d1, decide_true, if_true]
      simp
     ·by_cases d2 : 0 <= i /\ i < (n : Int)
      ·by_cases d3 : 0 <= j /\ j < (n : Int)
       ·simp only [vK, xK, yn, zp, yk, xc, zD, zm, zv, yy, r0, r4, r5, g0a, uo, d1, decide_false, g0l, if_false, YK, kC, d2.1, d2.2, d3.1, d3.2, decide_true, en, g1l, lm]
        simp [d1, d2, d3]
       ·by_cases d4 : 0 <= j
        ·have d5 : ¬ (j < (n : Int)) := fun h => d3 ⟨d4, h⟩
         simp only [vK, xK, yn, zp, yk, xc, zD, zm, zv, yy, r0, r4, r5, g0a, uo, d1, decide_false, g0l, if_false, YK, kC, d2.1, d2.2, d4, d5, decide_true, en, g1l, g1p, if_true]
         simp [d5]
        ·simp only [vK, xK, yn, zp, yk, xc, zD, zm, zv, yy, r0, r4, r5, g0a, uo, d1, decide_false, g0l, if_false, YK, kC, d2.1, d2.2, d4, decide_true, en, g1l, g1p, if_true]
         simp [d4]
      ·by_cases d4 : 0 <= i
       ·have d5 : ¬ (i < (n : Int)) := fun h => d2 ⟨d4, h⟩
        simp only [vK, xK, yn, zp, yk, xc, yy, r0, r4, r5, g0a, uo, d1, decide_false, g0l, if_false, YK, kC, d4, d5, decide_true, en, g1p, if_true]
        simp [d5]
       ·simp only [vK, xK, yn, zp, yk, xc, yy, r0, r4, r5, g0a, uo, d1, decide_false, g0l, if_false, YK, kC, d4, decide_true, en, g1p, if_true]
        simp [d4]
    have tst' := tst [.fr (zj n ts), .fr (zq w), .fr (.tup [.str "turn", .int (k : Int), .int i, .int j]), .fr (.int (k : Int)), .fr (.int i), .fr (.int j), .no] rfl rfl rfl
    have gt : ∀ d : D, orT (blF (zc ltD (vF 3) (cF (.int 0)))) (blF (zc geD (vF 3) (zO WG (zb (vF 1) zu)))) [.fr (zj n ts), .fr (zq w), .fr d, .fr (.int (k : Int)), .no, .no, .no] = some false := fun d => by
     simp only [vK, yn, zp, yk, xc, zD, zm, zv, g0c, g0b, g0a, kC, c0, decide_false, g0l, if_false, hlw, HX, c1]
    by_cases c2 : (0 <= i /\ i < (n : Int)) /\ (0 <= j /\ j < (n : Int)) /\ i ≠ j /\ yJ ts i j ≠ 0
    ·rw [decide_eq_false (fun h => h c2)] at tst'
     obtain ⟨⟨d1, d2⟩, ⟨d3, d4⟩, d5, d6⟩ := id c2
     obtain ⟨m, em⟩ : ∃ m : Nat, yJ ts i j = (m : Int) := ⟨(yJ ts i j).toNat, by omega⟩
     rw [em] at lm hm d6 ⊢
     have e1 : (m : Int).toNat = m := by omega
     rw [e1]
     obtain ⟨a, rfl⟩ : ∃ a : Nat, i = (a : Int) := ⟨i.toNat, by omega⟩
     obtain ⟨b, rfl⟩ : ∃ b : Nat, j = (b : Int) := ⟨j.toNat, by omega⟩
     have e2 : (a : Int).toNat = a := by omega
     have e3 : (b : Int).toNat = b := by omega
     rw [e2, e3]
     have hm1 : 1 <= m /\ m <= 6 := by omega
     have wm1 := VF (i := a) (j := b) (k := m) hm1.1 (by omega)
     have wm2 := VF (i := b) (j := a) (k := m) hm1.1 (by omega)
     have ekm : (k : Int) + (m : Int) = ((k + m : Nat) : Int) := by omega
     let ρ : Rho := [.fr (zj n ts), .fr (zq w), .fr (.tup [.str "turn", .int (k : Int), .int (a : Int), .int (b : Int)]), .fr (.int (k : Int)), .fr (.int (a : Int)), .fr (.int (b : Int)), .fr (.int (m : Int))]
     have tw1 : zc Gn (tupF (zb (vF 4) (zb (vF 5) zu))) (vF 6) ρ = some (zq (YU a b m)) := by
      simp only [ρ, zp, x6, zm, zv, yk, g0c, g0b, g0a, g0d, g0e, if_pos z2, if_pos z2', Nat.reduceAdd, wm1]
     have tw2 : zc Gn (tupF (zb (vF 5) (zb (vF 4) zu))) (vF 6) ρ = some (zq (YU b a m)) := by
      simp only [ρ, zp, x6, zm, zv, yk, g0c, g0b, g0a, g0d, g0e, if_pos z2, if_pos z2', Nat.reduceAdd, wm2]
     have p1 := jH (g := vF 6) (k := m) tw1 rfl
     have p2 := jH (g := vF 6) (k := m) tw2 rfl
     rw [Wz a b hm1.2] at p1
     rw [Wz b a hm1.2] at p2
     have t3 := VN (f := vF 1) (g := vF 3) (h := zc yV (vF 3) (vF 6)) (ρ := ρ) (w := w) (a := k) (b := k + m) rfl rfl (by simp only [ρ, zp, yk, g0c, g0b, g0a, qG, ekm]) (by omega)
     rw [g3f] at t3
     have t1 := jH (f := vF 1) (g := vF 3) (ρ := ρ) (w := w) (k := k) rfl rfl
     have t2 := YJ (f := vF 1) (g := zc yV (vF 3) (vF 6)) (ρ := ρ) (w := w) (k := k + m) rfl (by simp only [ρ, zp, yk, g0c, g0b, g0a, qG, ekm])
     have nw := Vd ((w.drop k).take m) (Yr a b m)
     have a1 := vZ (w.take k) (Yr b a m) (by rw [g1i, wA]; omega)
     have a2 := vZ (w.take k ++ Yr b a m) (w.drop (k + m)) (by rw [g0i, g1i, g1v, wA]; omega)
     simp only [ρ] at p1 p2 t1 t2 t3
     by_cases c6 : (w.drop k).take m = Yr a b m
     ·rw [decide_eq_true c6, g1l] at nw
      rw [if_pos ⟨by omega, by omega, c2.1, c2.2.1, d5, d6, c6⟩]
      simp only [yE, xm, mvD, zP, zt, g0f, g0o, g0d, g0e, Nat.reduceAdd, Nat.reduceSub, g0g, g0p, g0n, zN, yj, yH, yn, zp, yk, xc, zD, zm, zv, g0c, g0b, g0a, ix0, ix1, ix2, ix3, g0j, g0h, tst', g0l, if_false, x8, es, lm, t3, p1, nw, zR, t1, p2, a1, t2, a2, z9, xa, gt]
     ·rw [decide_eq_false c6, g1p] at nw
      rw [if_neg (fun h => c6 h.2.2.2.2.2.2)]
      simp only [yE, xm, mvD, zP, zt, g0f, g0o, g0d, g0e, Nat.reduceAdd, Nat.reduceSub, g0g, g0p, g0n, zN, yj, yH, yn, zp, yk, xc, zD, zm, zv, g0c, g0b, g0a, ix0, ix1, ix2, ix3, g0j, g0h, tst', g0l, if_false, x8, es, lm, t3, p1, nw, if_true, zR, z9, xa, gt]
    ·rw [decide_eq_true c2] at tst'
     rw [if_neg (fun h => c2 ⟨h.2.2.1, h.2.2.2.1, h.2.2.2.2.1, h.2.2.2.2.2.1⟩)]
     simp only [yE, xm, mvD, zP, zt, g0f, g0o, g0d, g0e, Nat.reduceAdd, Nat.reduceSub, g0g, g0p, g0n, zN, yj, yH, zp, yn, yk, xc, g0c, g0b, g0a, ix0, ix1, ix2, ix3, g0j, g0h, gt, tst', g0l, if_false, if_true, x8, es, zR, z9, xa]
theorem HI (i j m : Nat) : Yr i j m = wG i j m := rfl
theorem WK {w : List Nat} {i : Nat} {a : Nat} (h : w[i]? = some a) : ixD (zq w) (.int (i : Int)) = some (.int (a : Int)) := by
 unfold zq
 exact Wy (by rw [g0w, h]; rfl)
theorem vq {ts : List T3} {n : Nat} : ∀ (a : List Mv) {w w' : List Nat} (b : List Mv), wZ ts n w a = some w' -> wZ ts n w (a ++ b) = wZ ts n w' b
 | [], w, w', b, h => by cases h; rfl
 | mv :: a, w, w', b, h => by
  unfold wZ at h
  rw [g0p]
  rw [wZ]
  cases c : U1 ts n w mv with
  | none => rw [c] at h; cases h
  | some w2 => rw [c] at h; exact vq a b h
theorem VG {ts : List T3} {n : Nat} {w w' : List Nat} {mv : Mv} (h : U1 ts n w mv = some w') : wZ ts n w [mv] = some w' := by
 unfold wZ; rw [h]; rfl
theorem HC (n : Nat) {ts : List T3} (hg : yw ts) {w w' : List Nat} (hl : w.length <= 60) {mv : Mv} (h : U1 ts n w mv = some w') (ms : List Mv) (hm : ms.length <= 2 ^ 20) :
  doD zl (zj n ts) (zq w, ms.map mvD) (mvD mv) = some (zq w', (ms ++ [mv]).map mvD) := by
 have hs : (ms.map mvD).length < sizeLine := by rw [g1j]; exact g3e hm (by decide)
 unfold doD
 rw [V5 n hg hl mv, h]
 show (if (ms.map mvD).length < sizeLine then some (zq w', ms.map mvD ++ [mvD mv]) else none) = _
 rw [if_pos hs, g1u]
 rfl
section
variable {n : Nat} {ts : List T3}
def Kx (n : Nat) (ts : List T3) (L : Nat) : Prop := ∀ (s pre : List Nat) (t : Nat) (ms : List Mv) (fuel : Nat), s.length = L -> Sh ts n s -> Dn ts n s t -> t < n -> InW n pre -> pre.length + s.length <= 60 -> L < fuel -> ms.length + 2 ^ L <= 2 ^ 20 →
 ∃ (P : List Mv) (s' : List Nat), wY zl zC zF (zj n ts) fuel (zq (pre ++ s), ms.map mvD) (.int (pre.length : Int)) (.int (t : Int)) = some (zq (pre ++ t :: s'), (ms ++ P).map mvD) ∧
  wZ ts n (pre ++ s) P = some (pre ++ t :: s') /\ InW n (t :: s') /\ (t :: s').length = s.length /\ Eqv (zf ts) n (t :: s') s /\ P.length + 1 <= 2 ^ L
theorem Yp (hg : yw ts) {L : Nat} (ih : ∀ L', L' < L -> Kx n ts L') {s c pre : List Nat} (hsl : s.length = L) (hs : Sh ts n s) {f t m : Nat} (hf : f < n) (ht : t < n) (hm : m <= 6) (hc : InW n c) (e : Eqv (zf ts) n (wG f t m ++ c) s) (hl : m + c.length = s.length) (hp : InW n pre) (hpl : pre.length + s.length <= 60) {ms : List Mv} {fuel : Nat} (hfu : L <= fuel) (hms : ms.length + 2 ^ L <= 2 ^ 20) :
  ∀ (j k : Nat) (x : List Nat) (P : List Mv), k + j = m -> 1 <= k -> InW n x -> Eqv (zf ts) n (wG f t k ++ x) s -> k + x.length = s.length -> wZ ts n (pre ++ s) P = some (pre ++ (wG f t k ++ x)) -> P.length + 2 ^ (L - k + 1) <= 2 ^ L →
   ∃ (P' : List Mv) (x' : List Nat), vW (fun k ws => (yV (.int (pre.length : Int)) k).bind fun pk => (ixD (zq (Yr f t m)) k).bind fun sk => wY zl zC zF (zj n ts) fuel ws pk sk) (zY (k : Int) (m : Int)) (zq (pre ++ (wG f t k ++ x)), (ms ++ P).map mvD) = some (zq (pre ++ (wG f t m ++ x')), (ms ++ P').map mvD) ∧
    InW n x' /\ Eqv (zf ts) n (wG f t m ++ x') s /\ m + x'.length = s.length /\ wZ ts n (pre ++ s) P' = some (pre ++ (wG f t m ++ x')) /\ P'.length + 2 ^ (L - m + 1) <= 2 ^ L
 | 0, k, x, P, hk, h1, hx, ex, hxl, hw, hP => by
  have : k = m := by omega
  subst this
  rw [wg (g0r _)]
  exact ⟨P, x, rfl, hx, ex, hxl, hw, hP⟩
 | j + 1, k, x, P, hk, h1, hx, ex, hxl, hw, hP => by
  obtain ⟨sx, dx⟩ := Gr hg hs hf ht (show k < m by omega) hc e hl hx ex hxl
  have hL : x.length = L - k := by omega
  have hlt : L - k < L := by omega
  have hpow : 2 ^ (L - k) <= 2 ^ L := g2i (by decide) (by omega)
  have hpw : 2 ^ (L - k + 1) = 2 ^ (L - k) + 2 ^ (L - k) := by rw [Nat.pow_succ]; omega
  have hpos : 1 <= 2 ^ (L - k) := Nat.one_le_two_pow
  have hg2 : (if k % 2 = 0 then f else t) < n := by split <;> assumption
  obtain ⟨P1, x1, b1, b2, b3, b4, b5, b6⟩ := ih (L - k) hlt x (pre ++ wG f t k) (if k % 2 = 0 then f else t) (ms ++ P) fuel hL sx dx hg2 (hp.app (Xh hf ht k)) (by rw [g0i, yG]; omega) (by omega) (by rw [g0i]; omega)
  have ea : wG f t (k + 1) = wG f t k ++ [if k % 2 = 0 then f else t] := by
   unfold wG
   rw [List.range_succ, g1u]
   rfl
  have ew : pre ++ wG f t k ++ (if k % 2 = 0 then f else t) :: x1 = pre ++ (wG f t (k + 1) ++ x1) := by rw [ea]; simp
  have ew0 : pre ++ wG f t k ++ x = pre ++ (wG f t k ++ x) := by simp
  have hx1 : InW n x1 := fun y hy => b3 y (g0m _ hy)
  have ex1 : Eqv (zf ts) n (wG f t (k + 1) ++ x1) s := by
   rw [ea, g0x]
   exact ((Eqv.rfl' _).app b5).trans ex
  rw [ew0] at b1 b2
  rw [ew] at b1 b2
  have hw1 : wZ ts n (pre ++ s) (P ++ P1) = some (pre ++ (wG f t (k + 1) ++ x1)) := by rw [vq P P1 hw]; exact b2
  have hx1l : x1.length + 1 = x.length := by simpa using b4
  obtain ⟨P2, x2, c1, c2, c3, c4, c5, c6⟩ := Yp hg ih hsl hs hf ht hm hc e hl hp hpl hfu hms j (k + 1) x1 (P ++ P1) (by omega) (by omega) hx1 ex1 (by omega) hw1 (by
   rw [g0i]
   have : L - (k + 1) + 1 = L - k := by omega
   rw [this]
   omega)
  refine ⟨P2, x2, ?_, c2, c3, c4, c5, c6⟩
  rw [xF (show k < m by omega)]
  unfold vW
  have e1 : yV (.int (pre.length : Int)) (.int (k : Int)) = some (.int ((pre ++ wG f t k).length : Int)) := by
   rw [g0i, yG]
   show some (D.int ((pre.length : Int) + (k : Int))) = _
   simp
  have e2 : ixD (zq (Yr f t m)) (.int (k : Int)) = some (.int ((if k % 2 = 0 then f else t : Nat) : Int)) := by
   apply WK
   unfold Yr
   rw [g0w, List.getElem?_range (by omega)]
   rfl
  rw [e1, g0a, e2, g0a, b1, g0a]
  rw [g0x]
  exact c1
theorem Ws (hg : yw ts) (hn : n <= 6) : ∀ L, Kx n ts L := by
 intro L
 induction L using Nat.strongRecOn with
 | _ L ih =>
  intro s pre t ms fuel hsl hs hd ht hp hpl hfu hms
  obtain ⟨fu, rfl⟩ : ∃ fu, fuel = fu + 1 := ⟨fuel - 1, by omega⟩
  cases s with
  | nil =>
   obtain ⟨r, _, _, h⟩ := hd
   simp at h
  | cons f r =>
   have hf : f < n := hs.1 f (by simp)
   have hix : ixD (zq (pre ++ f :: r)) (.int (pre.length : Int)) = some (.int (f : Int)) := WK (by simp)
   have hL1 : 1 <= L := by rw [<- hsl]; simp
   by_cases c : f = t
   ·subst c
    refine ⟨[], r, ?_, rfl, hs.1, rfl, Eqv.rfl' _, ?_⟩
    ·unfold wY
     rw [hix, g0a, uo, g0a]
     simp
    ·have := g2i (n := 2) (by decide) hL1
     simp
     omega
   ·obtain ⟨cc, m, em, hm, hc, e, br, hl⟩ := KF hg hs c hf ht (Dn.head hs.1) hd
    have hmL : m <= L := by omega
    obtain ⟨P', x', b1, b2, b3, b4, b5, b6⟩ := Yp hg ih hsl hs hf ht hm.2 hc e hl hp hpl (fuel := fu) (by omega) hms (m - 1) 1 r [] (by omega) (g0r _) (fun y hy => hs.1 y (g0m _ hy)) (Eqv.rfl' _) (by simp; omega) rfl (by
     have : L - 1 + 1 = L := by omega
     rw [this]; simp)
    have hpw : 2 <= 2 ^ (L - m + 1) := by rw [Nat.pow_succ]; have := Nat.one_le_two_pow (n := L - m); omega
    obtain ⟨y, ey⟩ : ∃ y, wG t f m = t :: y := by
     obtain ⟨q, rfl⟩ : ∃ q, m = q + 1 := ⟨m - 1, by omega⟩
     refine ⟨(wG t f (q + 1)).drop 1, ?_⟩
     have := g1f (l := wG t f (q + 1)) (i := 0) (by rw [yG]; omega)
     rw [List.drop_zero] at this
     rw [this]
     congr 1
     simp [wG]
    have mv : U1 ts n (pre ++ (wG f t m ++ x')) (.turn pre.length f t) = some (pre ++ (wG t f m ++ x')) := by
     show Yw ts n _ _ _ _ = _
     unfold Yw
     have tn : (yJ ts (f : Int) (t : Int)).toNat = m := by rw [em]; simp
     rw [tn, if_pos]
     ·simp only [Int.toNat_natCast, HI]
      congr 1
      rw [List.take_left, g0x]
      congr 2
      have : pre.length + m = (pre ++ wG f t m).length := by rw [g0i, yG]
      rw [<- g0x, this, List.drop_left]
     ·refine ⟨by omega, ?_, ⟨by omega, by omega⟩, ⟨by omega, by omega⟩, by omega, by omega, ?_⟩
      ·rw [g0i, g0i, yG]
       omega
      ·simp only [Int.toNat_natCast, HI]
       rw [List.drop_left]
       exact List.take_left' (yG f t m)
    refine ⟨P' ++ [.turn pre.length f t], y ++ x', ?_, ?_, ?_, ?_, ?_, ?_⟩
    ·unfold wY
     have ne : ¬ ((f : Int) = (t : Int)) := by omega
     rw [hix, g0a, uo, decide_eq_false ne, g0a]
     show ((zC [zj n ts, .int (f : Int), .int (t : Int)]).bind _) = _
     rw [Yv, em, g0a, jS (f : Int) (t : Int) f t m rfl rfl (by omega), g0a]
     have rb : ki [.int 1, .int (m : Int)] = some (zY ((1 : Nat) : Int) (m : Int)) := XI (by decide) (by decide) (by omega) (by omega)
     rw [rb, g0a]
     have b1' := b1
     rw [g0t, show wG f t 1 ++ r = f :: r from rfl] at b1'
     rw [b1', g0a]
     have dv := HC n hg (w := pre ++ (wG f t m ++ x')) (by rw [g0i, g0i, yG]; omega) mv (ms ++ P') (by rw [g0i]; omega)
     have em2 : (D.tup [.str "turn", .int (pre.length : Int), .int (f : Int), .int (t : Int)]) = mvD (.turn pre.length f t) := rfl
     rw [em2, dv, ey, g0x]
     rfl
    ·rw [vq P' _ b5, VG mv, ey]
     rfl
    ·have := (Xh ht hf m).app b2
     rw [ey] at this
     exact this
    ·have := congrArg g3c ey
     rw [yG] at this
     simp only [g0d, g0i] at this b4 ⊢
     omega
    ·have : Eqv (zf ts) n (wG t f m ++ x') (f :: r) := (br.symm.app (Eqv.rfl' x')).trans b3
     rw [ey] at this
     exact this
    ·rw [g0i]
     simp
     omega
theorem Qg (i : Nat) : Wi (((i + 1 : Nat) : Int) - 1) (-1) = .int (i : Int) :: Wi ((i : Int) - 1) (-1) := by
 unfold Wi
 have e1 : (((i + 1 : Nat) : Int) - 1 - -1).toNat = i + 1 := by omega
 have e2 : ((i : Int) - 1 - -1).toNat = i := by omega
 rw [e1, e2, g2c, g0f, g1n]
 refine congr (congrArg List.cons (congrArg D.int (by omega))) ?_
 apply g2g
 intro k _
 simp only [Function.comp]
 congr 1
 omega
theorem jG (hg : yw ts) (hn : n <= 6) {w : List Nat} (hw : InW n w) (hwl : w.length <= 11) : ∀ (i : Nat) (s : List Nat) (P : List Mv), i <= w.length -> Sh ts n s -> Eqv (zf ts) n s (w.drop i) -> i + s.length <= w.length -> wZ ts n w P = some (w.take i ++ s) -> P.length + i * 2049 <= w.length * 2049 →
  ∃ (P' : List Mv) (s' : List Nat), vW (kf zl zC zF yf (zj n ts) 12) (Wi ((i : Int) - 1) (-1)) (zq (w.take i ++ s), P.map mvD) = some (zq s', P'.map mvD) /\ Sh ts n s' /\ Eqv (zf ts) n s' w /\ s'.length <= w.length /\ wZ ts n w P' = some s' /\ P'.length <= w.length * 2049
 | 0, s, P, _, hs, e, hl, hP, hPl => by
  have : Wi (((0 : Nat) : Int) - 1) (-1) = [] := rfl
  rw [this]
  exact ⟨P, s, rfl, hs, e, by omega, hP, by omega⟩
 | i + 1, s, P, hi, hs, e, hl, hP, hPl => by
  obtain ⟨a, ea⟩ : ∃ a, w[i]? = some a := ⟨w[i], g0z (by omega)⟩
  have ha : a < n := hw a (g2h ea)
  have et : w.take (i + 1) = w.take i ++ [a] := by rw [List.take_add_one, ea]; rfl
  have ed : w.drop i = a :: w.drop (i + 1) := by
   obtain ⟨h1, rfl⟩ := g0y.mp ea
   exact g1f h1
  have tl : (w.take i).length = i := by rw [g1i]; omega
  have tl1 : (w.take (i + 1)).length = i + 1 := by rw [g1i]; omega
  have ew : w.take (i + 1) ++ s = w.take i ++ (a :: s) := by rw [et]; simp
  have hin : InW n (a :: s) := InW.cons ha hs.1
  have hti : InW n (w.take i) := fun x hx => hw x (g2n hx)
  have cd : D.tup (jC ((w.take (i + 1) ++ s).map fun (i : Nat) => D.int (i : Int)) (some (i : Int)) none) = zq (a :: s) := by
   rw [Xr, ew]
   congr 1
   exact List.drop_left' tl
  have sv := Vi n hg hn hin (by simp; omega)
  rw [<- cd] at sv
  have eas : Eqv (zf ts) n (a :: s) (w.drop i) := by
   rw [ed]
   exact (Eqv.rfl' [a]).app e
  rw [Qg]
  by_cases c : Sh ts n (a :: s)
  ·rw [(Za hg hin).mpr c] at sv
   obtain ⟨P', s', r1, r2⟩ := jG hg hn hw hwl i (a :: s) P (by omega) c eas (by simp; omega) (by rw [hP, ew]) (by omega)
   refine ⟨P', s', ?_, r2⟩
   unfold vW
   have st := KM zl zC zF yf (n := 12) (ms := P.map mvD) sv
   rw [show zq (w.take (i + 1) ++ s) = .tup ((w.take (i + 1) ++ s).map fun (i : Nat) => D.int (i : Int)) from rfl, st, g0a]
   rw [show D.tup ((w.take (i + 1) ++ s).map fun (i : Nat) => D.int (i : Int)) = zq (w.take (i + 1) ++ s) from rfl, ew]
   exact r1
  ·have bf : (xW ts n [] (a :: s)).all id = false := by
    cases z : (xW ts n [] (a :: s)).all id with
    | false => rfl
    | true => exact absurd ((Za hg hin).mp z) c
   rw [bf] at sv
   have dn := Jv hg hs ha c
   have hpw : 2 ^ s.length <= 2048 := by
    have : 2 ^ s.length <= 2 ^ 11 := g2i (by decide) (by omega)
    exact this
   obtain ⟨P1, s1, b1, b2, b3, b4, b5, b6⟩ := Ws hg hn s.length s (w.take (i + 1)) a P 12 rfl hs dn ha (fun x hx => hw x (g2n hx)) (by omega) (by omega) (by omega)
   rw [tl1] at b1
   have hs1 : Sh ts n (a :: s1) := hs.of b3 b5 b4
   have hs1' : Sh ts n s1 := Sh.cut (a := [a]) (b := s1) (c := []) (by simpa using hs1)
   have ew1 : w.take (i + 1) ++ a :: s1 = w.take i ++ (a :: a :: s1) := by rw [et]; simp
   have mv : U1 ts n (w.take (i + 1) ++ a :: s1) (.drop (i : Int)) = some (w.take i ++ s1) := by
    rw [ew1]
    show Y9 _ _ = _
    unfold Y9
    rw [if_pos]
    ·simp only [Int.toNat_natCast]
     rw [List.take_left' tl]
     congr 2
     have : i + 2 = (w.take i ++ [a, a]).length := by rw [g0i, tl]; rfl
     rw [show w.take i ++ a :: a :: s1 = (w.take i ++ [a, a]) ++ s1 by simp, this, List.drop_left]
    ·refine ⟨by omega, ?_, ?_⟩
     ·rw [g0i, tl]
      simp
      omega
     ·simp only [Int.toNat_natCast]
      rw [g1a (by omega), g1a (by omega), tl, Nat.sub_self, g3f]
      rfl
   have dv := HC n hg (w := w.take (i + 1) ++ a :: s1) (by rw [g0i, tl1]; omega) mv (P ++ P1) (by rw [g0i]; omega)
   have e1 : Eqv (zf ts) n s1 (w.drop i) := by
    have h2 := zW ts
    have k1 : Eqv (zf ts) n ([a] ++ (a :: s1)) ([a] ++ s) := (Eqv.rfl' [a]).app b5
    have k2 : Eqv (zf ts) n ([a, a] ++ s1) ([] ++ s1) := (Eqv.twice h2 ha).app (Eqv.rfl' s1)
    exact k2.symm.trans (k1.trans eas)
   have l1 : s1.length + 1 = s.length := by simpa using b4
   obtain ⟨P', s', r1, r2⟩ := jG hg hn hw hwl i s1 ((P ++ P1) ++ [.drop (i : Int)]) (by omega) hs1' e1 (by omega) (by
    rw [vq (P ++ P1) _ (show wZ ts n w (P ++ P1) = some (w.take (i + 1) ++ a :: s1) by rw [vq P P1 hP]; exact b2), VG mv]) (by
    simp only [g0i, g0d, g0e]
    omega)
   refine ⟨P', s', ?_, r2⟩
   unfold vW
   have ixa : ixD (.tup ((w.take (i + 1) ++ s).map fun (i : Nat) => D.int (i : Int))) (.int (i : Int)) = some (.int (a : Int)) := WK (by
    rw [ew, g1a (by omega), tl, Nat.sub_self]
    rfl)
   have st := KN zl zC zF yf (n := 12) (ms := P.map mvD) sv ixa (show _ = some _ from b1) (show _ = some _ from dv)
   rw [show zq (w.take (i + 1) ++ s) = .tup ((w.take (i + 1) ++ s).map fun (i : Nat) => D.int (i : Int)) from rfl, st, g0a]
   exact r1
theorem Yk (hg : yw ts) (hn : n <= 6) {v s0 : List Nat} (hv : Sh ts n v) (hvl : v.length <= 11) {ms : List Mv} (hms : ms.length <= 40000) : ∀ (j k : Nat) (x : List Nat) (P : List Mv), k + j = v.length -> InW n x -> Eqv (zf ts) n (v.take k ++ x) v -> k + x.length = v.length -> wZ ts n s0 P = some (v.take k ++ x) -> P.length <= k * 2048 →
  ∃ P' : List Mv, vW (X5 zl zC zF (zj n ts) 12) (ZA k ((v.drop k).map fun (i : Nat) => D.int (i : Int))) (zq (v.take k ++ x), (ms ++ P).map mvD) = some (zq v, (ms ++ P').map mvD) /\ wZ ts n s0 P' = some v /\ P'.length <= v.length * 2048
 | 0, k, x, P, hk, hx, e, hl, hP, hPl => by
  have hx0 : x = [] := g2r (by omega)
  subst hx0
  have : v.take k = v := g2d (by omega)
  rw [g1z (by omega)]
  rw [this, g0t] at hP ⊢
  exact ⟨P, rfl, hP, by omega⟩
 | j + 1, k, x, P, hk, hx, e, hl, hP, hPl => by
  obtain ⟨a, ea⟩ : ∃ a, v[k]? = some a := ⟨v[k], g0z (by omega)⟩
  have ha : a < n := hv.1 a (g2h ea)
  have et : v.take (k + 1) = v.take k ++ [a] := by rw [List.take_add_one, ea]; rfl
  have ed : v.drop k = a :: v.drop (k + 1) := by
   obtain ⟨h1, rfl⟩ := g0y.mp ea
   exact g1f h1
  have tl : (v.take k).length = k := by rw [g1i]; omega
  have hti : InW n (v.take k) := fun y hy => hv.1 y (g2n hy)
  have sh1 : Sh ts n (v.take k ++ x) := hv.of (hti.app hx) e (by rw [g0i, tl]; omega)
  have sx : Sh ts n x := Sh.cut (a := v.take k) (b := x) (c := []) (by simpa using sh1)
  have e2 : Eqv (zf ts) n x (v.drop k) := Uk hti (by rw [g2m]; exact e)
  have dn : Dn ts n x a := ⟨v.drop (k + 1), fun y hy => hv.1 y (g2j hy), by rw [<- ed]; exact e2.symm, by rw [g1v]; omega⟩
  have hpw : 2 ^ x.length <= 2048 := by
   have : 2 ^ x.length <= 2 ^ 11 := g2i (by decide) (by omega)
   exact this
  obtain ⟨P1, x1, b1, b2, b3, b4, b5, b6⟩ := Ws hg hn x.length x (v.take k) a (ms ++ P) 12 rfl sx dn ha hti (by omega) (by omega) (by rw [g0i]; omega)
  have ew : v.take k ++ a :: x1 = v.take (k + 1) ++ x1 := by rw [et]; simp
  rw [tl, ew, g0x] at b1
  rw [ew] at b2
  have e3 : Eqv (zf ts) n (v.take (k + 1) ++ x1) v := by
   rw [<- ew]
   exact ((Eqv.rfl' _).app b5).trans e
  have l1 : x1.length + 1 = x.length := by simpa using b4
  obtain ⟨P', r1, r2⟩ := Yk hg hn hv hvl hms j (k + 1) x1 (P ++ P1) (by omega) (fun y hy => b3 y (g0m _ hy)) e3 (by omega) (by rw [vq P P1 hP]; exact b2) (by rw [g0i]; omega)
  refine ⟨P', ?_, r2⟩
  rw [ed, g0f, ZA]
  unfold vW
  show ((wY zl zC zF (zj n ts) 12 (zq (v.take k ++ x), (ms ++ P).map mvD) (.int (k : Int)) (.int (a : Int))).bind _) = _
  rw [b1, g0a]
  exact r1
theorem WN (hg : yw ts) (hn : n <= 6) {w : List Nat} (hw : InW n w) (hwl : w.length <= 11) :
  ∃ (P : List Mv) (v : List Nat), uv [zj n ts, zq w] = some (.lst (P.map mvD)) /\ wZ ts n w P = some v /\ Lst ts n w.reverse v /\ Sh ts n v /\ Eqv (zf ts) n v w /\ v.length <= w.length /\ P.length <= 60000 := by
 obtain ⟨v, l, v1, v2, v3, v4, v5, v6⟩ := Y3 hg hw
 have hv : Sh ts n v := ⟨v2, by rw [v5]; exact v4⟩
 have lv := X4 n hg hn hw v1 (by omega) (by omega)
 obtain ⟨P1, s1, a1, a2, a3, a4, a5, a6⟩ := jG hg hn hw hwl w.length [] [] (g0r _) ⟨(fun i hi => by cases hi), Lth.nil⟩ (by rw [List.drop_length]; exact Eqv.rfl' _) (by simp) (by rw [List.take_length, g0t]; rfl) (by simp)
 rw [List.take_length, g0t] at a1
 have es : Eqv (zf ts) n s1 v := a3.trans v3.symm
 have ls : s1.length = v.length := by
  have := a2.2.uniq (hv.2.cong es.symm)
  exact this
 obtain ⟨P2, b1, b2, b3⟩ := Yk hg hn (s0 := s1) hv (by omega) (ms := P1) (by omega) v.length 0 s1 [] (by omega) a2.1 es (by omega) rfl (by simp)
 refine ⟨P1 ++ P2, v, ?_, ?_, v1, hv, v3, by omega, by rw [g0i]; omega⟩
 ·have sd : Zb zl zC zF yf (zj n ts) 12 (zq w, []) = some (zq s1, P1.map mvD) := by
   unfold Zb
   show ((VQ [.int (((w.map fun (i : Nat) => D.int (i : Int)).length : Int) - 1), .int (-1), .int (-1)]).bind _) = _
   rw [g1j, Q6 (by omega) (by omega) (by decide) (by decide), g0a]
   exact a1
  show ((Zb zl zC zF yf (zj n ts) 12 (zq w, [])).bind _) = _
  rw [sd, g0a, lv, g0a]
  show ((vW (X5 zl zC zF (zj n ts) 12) (wR (v.map fun (i : Nat) => D.int (i : Int))) (zq s1, P1.map mvD)).bind _) = _
  rw [Y7]
  have b1' := b1
  rw [List.drop_zero, List.take_zero, g0n, g0t] at b1'
  rw [b1', g0a]
 ·rw [vq P1 P2 a5]
  exact b2
end
theorem CO : (("drop" : Str) == "turn") = false := by decide +kernel
theorem Ma : (("turn" : Str) == "drop") = false := by decide +kernel
theorem Mb : (("drop" : Str) == "drop") = true := by decide +kernel
theorem CN : (("turn" : Str) == "turn") = true := by decide +kernel
theorem MA : eqF (.tup [.str "drop"]) (.tup [.str "turn"]) = some (.bl false) := by
 simp only [eqF, dep, uV, eqD, Xp, CO]
 rfl
theorem Mz : eqF (.tup [.str "turn"]) (.tup [.str "turn"]) = some (.bl true) := by
 simp only [eqF, dep, uV, eqD, Xp, CN]
 rfl
theorem NC : inD true (.str "drop") (.lst [.str "drop", .str "turn"]) = some (.bl false) := by
 simp only [inD, dep, uV, eqD, List.any_cons, List.any_nil, Mb, Ma]
 rfl
theorem NB : inD true (.str "turn") (.lst [.str "drop", .str "turn"]) = some (.bl false) := by
 simp only [inD, dep, uV, eqD, List.any_cons, List.any_nil, CO, CN]
 rfl
noncomputable def lwN : FS := ifS (WE (blF (zO vA (zb (vF 4) zu)))) (yv (cF .non)) nxF
theorem Y2 (h w a m : Slot) : ∀ (l : List Int) (s4 : Slot), ∃ s4', yK (zJ 4) lwN (l.map D.int) [h, w, a, m, s4] = some (.nx [h, w, a, m, s4'])
 | [], s4 => ⟨s4, rfl⟩
 | x :: l, s4 => by
  obtain ⟨s4', e⟩ := Y2 h w a m l (.fr (.int x))
  refine ⟨s4', ?_⟩
  rw [g0f]
  unfold yK
  have wv := Qx x
  simp only [lwN, yu, g0a, g0j, g0h, yH, xK, yn, zD, zm, zv, yk, g0c, g0b, wv, g1l, g0l, if_false, x8]
  exact e
noncomputable def lw1 : FS := ifS (orT (WE (blF (y0 (Hy "tuple") (vF 3)))) (blF (zc neF (zO WG (zb (vF 3) zu)) (zc yV (cF (.int 2)) (zc wJ (cF (.int 2)) (zO Vj (zb (zc eqF (ym (vF 3) noP (exP (cF (.int 1)))) (tupF (zb (cF (.str "turn")) zu))) zu))))))) (yv (cF .non)) nxF
noncomputable def lw2 : FS := ifS (blF (zc (inD true) (zc ixD (vF 3) (cF (.int 0))) (yI (Yi (zb (cF (.str "drop")) (zb (cF (.str "turn")) zu)))))) (yv (cF .non)) nxF
noncomputable def lw3 : FS := kF (yc (ym (vF 3) (exP (cF (.int 1))) noP)) (zJ 4) lwN
noncomputable def lw4 : FS := yh (xb 1 (zO yE (zb (vF 0) (zb (vF 1) (zb (vF 3) zu))))) (ifS (blF (zc (isD false) (vF 1) (cF .non))) (yv (cF .non)) nxF)
theorem BO (h w a s4 : Slot) (mv : Mv) : lw1 [h, w, a, .fr (mvD mv), s4] = some (.nx [h, w, a, .fr (mvD mv), s4]) := by
 have z1 : (1 : Nat) <= sizeLine := szl (by decide)
 have z1' : 0 + 1 <= sizeLine := szl (by decide)
 have m0 : wJ (.int 2) (.int 0) = some (.int (2 * 0)) := Cy (by decide) (by decide)
 have m1 : wJ (.int 2) (.int 1) = some (.int (2 * 1)) := Cy (by decide) (by decide)
 cases mv with
 | drop p =>
  have cd : jC [D.str "drop", D.int p] none (some 1) = [D.str "drop"] := rfl
  simp [lw1, mvD, WQ, tyN, cd, MA, z1, m0]
 | turn p i j =>
  have cd : jC [D.str "turn", D.int p, D.int i, D.int j] none (some 1) = [D.str "turn"] := rfl
  simp [lw1, mvD, WQ, tyN, cd, Mz, z1, m1]
theorem BN (h w a s4 : Slot) (mv : Mv) : lw2 [h, w, a, .fr (mvD mv), s4] = some (.nx [h, w, a, .fr (mvD mv), s4]) := by
 have z2 : (2 : Nat) <= sizeLine := szl (by decide)
 cases mv with
 | drop p => simp [lw2, mvD, ix0, NC, z2]
 | turn p i j => simp [lw2, mvD, ix0, NB, z2]
theorem BM (h w a s4 : Slot) (mv : Mv) : ∃ s4', lw3 [h, w, a, .fr (mvD mv), s4] = some (.nx [h, w, a, .fr (mvD mv), s4']) := by
 cases mv with
 | drop p =>
  have cd : jC [D.str "drop", D.int p] (some 1) none = [p].map D.int := rfl
  obtain ⟨s4', e⟩ := Y2 h w a (.fr (mvD (.drop p))) [p] s4
  refine ⟨s4', ?_⟩
  unfold lw3
  rw [xv]
  have : yc (ym (vF 3) (exP (cF (.int 1))) noP) [h, w, a, .fr (mvD (.drop p)), s4] = some ([p].map D.int) := by
   simp only [yB, w4, yk, YM, xc, XE, g0c, g0b, g0a, mvD, cd]
   rfl
  rw [this, g0a]
  exact e
 | turn p i j =>
  have cd : jC [D.str "turn", D.int p, D.int i, D.int j] (some 1) none = [p, i, j].map D.int := rfl
  obtain ⟨s4', e⟩ := Y2 h w a (.fr (mvD (.turn p i j))) [p, i, j] s4
  refine ⟨s4', ?_⟩
  unfold lw3
  rw [xv]
  have : yc (ym (vF 3) (exP (cF (.int 1))) noP) [h, w, a, .fr (mvD (.turn p i j)), s4] = some ([p, i, j].map D.int) := by
   simp only [yB, w4, yk, YM, xc, XE, g0c, g0b, g0a, mvD, cd]
   rfl
  rw [this, g0a]
  exact e
noncomputable def lwB : FS := yh lw1 (yh lw2 (yh lw3 lw4))
theorem JF (n : Nat) {ts : List T3} (hg : yw ts) (a2 : Slot) : ∀ (ms : List Mv) (w : List Nat) (s3 s4 : Slot), InW n w -> w.length <= 60 -> ∃ o, yK (zJ 3) lwB (ms.map mvD) [.fr (zj n ts), .fr (zq w), a2, s3, s4] = some o ∧
  Qq ((some o).bind fun o => match o with | .nx ρ' => yv (vF 1) ρ' | o => some o) = some (xa (wZ ts n w ms))
 | [], w, s3, s4, hw, hl => ⟨_, rfl, rfl⟩
 | mv :: ms, w, s3, s4, hw, hl => by
  have mval := U8 n hg hl mv
  obtain ⟨s4', e3⟩ := BM (.fr (zj n ts)) (.fr (zq w)) a2 s4 mv
  have hb : lwB [.fr (zj n ts), .fr (zq w), a2, .fr (mvD mv), s4] = lw4 [.fr (zj n ts), .fr (zq w), a2, .fr (mvD mv), s4'] := by
   unfold lwB
   rw [zN, BO, g0a]
   show yh lw2 (yh lw3 lw4) _ = _
   rw [zN, BN, g0a]
   show yh lw3 lw4 _ = _
   rw [zN, e3, g0a]
  rw [g0f]
  unfold yK wZ
  rw [yu, g0a]
  show ∃ o, ((lwB [.fr (zj n ts), .fr (zq w), a2, .fr (mvD mv), s4]).bind _ = some o) /\ _
  rw [hb]
  cases c : U1 ts n w mv with
  | none =>
   rw [c] at mval
   have nn : isD false .non .non = some (.bl true) := rfl
   refine ⟨.rt .non, ?_, rfl⟩
   simp only [lw4, zN, yj, zD, zm, zv, yk, xc, g0c, g0b, g0a, g0j, g0h, mval, xa, yH, yn, zp, nn, if_true, zR]
  | some w' =>
   rw [c] at mval
   obtain ⟨h1, h2⟩ := JB hw c
   obtain ⟨o, e1, e2⟩ := JF n hg a2 ms w' (.fr (mvD mv)) s4' h1 (by omega)
   have nn : isD false (zq w') .non = some (.bl false) := rfl
   refine ⟨o, ?_, e2⟩
   simp only [lw4, zN, yj, zD, zm, zv, yk, xc, g0c, g0b, g0a, g0j, g0h, mval, xa, yH, yn, zp, nn, g0l, if_false, x8]
   exact e1
theorem Ve (n : Nat) {ts : List T3} (hg : yw ts) {w : List Nat} (hw : InW n w) (hl : w.length <= 60) (ms : List Mv) : wm [zj n ts, zq w, .lst (ms.map mvD)] = some (xa (wZ ts n w ms)) := by
 obtain ⟨o, e1, e2⟩ := JF n hg (.fr (.lst (ms.map mvD))) ms w .no .no hw hl
 have ty : Hy "list" (.lst (ms.map mvD)) = some (.bl true) := rfl
 have sq : YE (.lst (ms.map mvD)) = some (ms.map mvD) := rfl
 unfold wm j8
 simp only [zP, zt, g0f, g0o, g0d, g0e, Nat.reduceAdd, Nat.reduceSub, g0g, g0p, g0n]
 rw [zN]
 simp only [yH, xK, yn, uY, yk, g0c, g0b, g0a, ty, g1l, g0l, if_false, x8]
 rw [zN, xv]
 simp only [yB, yk, g0c, g0b, g0a, sq]
 unfold lwB lw1 lw2 lw3 lw4 lwN at e1
 rw [e1]
 exact e2
theorem Q2 (rs : List (List Gd)) : dep (vx rs) <= 100 := by
 have : uV (rs.map xu) <= 2 := jZ fun d hd => by
  obtain ⟨r, _, rfl⟩ := g2k.mp hd
  have : uV (r.map gD) <= 1 := jZ fun d hd => by
   obtain ⟨x, _, rfl⟩ := g2k.mp hd
   simp [gD, dep, uV]
  unfold xu dep
  omega
 unfold vx dep
 omega
theorem Qw (w : List Nat) : D.tup (w.map fun (i : Nat) => D.int (i : Int)).reverse = zq w.reverse := by simp [zq]
noncomputable def in8 : FS := ifS (blF (zO xy (zb (zO xI (zb (vF 2) (zb (C1 (ym (vF 6) (exP (vF 7)) noP) (y0 qJ (cF (.int 1)))) (zb (zO yt (zb (vF 2) (zb (vF 8) zu))) zu)))) zu))) (yv (cF (.bl false))) nxF
section
variable (n : Nat) {ts : List T3} (hg : yw ts) (hn : n <= 6) (a0 a1 a3 a4 a5 : Slot) {v : List Nat} (hv : InW n v) (hvl : v.length <= 40)
include hg hn hv hvl in
theorem Uc {at' : Nat} (hat : at' < v.length) {top : Nat} (htop : top <= n) (hb : ∀ j, j < top -> kR (yd (zf ts) (v.drop at').reverse (ye n j)) = false) : ∀ (m j : Nat) (s7 : Slot), j + m = top -> ∃ s7', yK (zJ 8) in8 (zY (j : Int) (top : Int)) [a0, a1, .fr (zj n ts), a3, a4, a5, .fr (zq v), .fr (.int at'), s7] =
  some (.nx [a0, a1, .fr (zj n ts), a3, a4, a5, .fr (zq v), .fr (.int at'), s7'])
 | 0, j, s7, h => by
  rw [wg (by omega)]
  exact ⟨s7, rfl⟩
 | m + 1, j, s7, h => by
  obtain ⟨s7', e⟩ := Uc hat htop hb m (j + 1) (.fr (.int j)) (by omega)
  refine ⟨s7', ?_⟩
  have hd : InW n (v.drop at').reverse := fun i hi => hv i (g2j (by simpa using hi))
  have hdl : (v.drop at').reverse.length <= 100 := by simp; omega
  have sv := qR n ts j (by omega)
  have lv := V8 n hg (w := (v.drop at').reverse) (by omega) hd j
  have bv := Yl (r := yd (zf ts) (v.drop at').reverse (ye n j)) (by rw [zG, zh]; omega) (Vf ts hn hdl j)
  rw [hb j (by omega)] at bv
  have cd := kQ (v.map fun (i : Nat) => D.int (i : Int)) at'
  rw [<- List.map_drop] at cd
  have wr := Qw (v.drop at')
  rw [xF (by omega)]
  unfold yK
  simp only [in8, yu, g0a, g0j, g0h, yH, yn, zD, zm, zv, yk, g0c, g0b, Ha, w4, YM, XE, uY, xc, WV, zq, cd, if_true]
  simp only [wr, sv, lv, bv, g0a, g0l, if_false, x8]
  unfold in8 zq at e
  exact e
include hg hn hv hvl in
theorem XO (hb : ∀ k i, v[k]? = some i -> ∀ j, j < i -> kR (yd (zf ts) (v.drop k).reverse (ye n j)) = false) : ∀ (m k : Nat) (s6 s7 : Slot), k + m = v.length -> ∃ s6' s7', yK (zJ 7) (kF (YO (zb (zc ixD (vF 6) (vF 7)) zu)) (zJ 8) in8) (zY (k : Int) (v.length : Int)) [a0, a1, .fr (zj n ts), a3, a4, a5, .fr (zq v), s6, s7] =
  some (.nx [a0, a1, .fr (zj n ts), a3, a4, a5, .fr (zq v), s6', s7'])
 | 0, k, s6, s7, h => by
  rw [wg (by omega)]
  exact ⟨s6, s7, rfl⟩
 | m + 1, k, s6, s7, h => by
  have hk : k < v.length := by omega
  have hget : v[k]? = some v[k] := g0z hk
  have hi : v[k] < n := hv _ (List.getElem_mem hk)
  obtain ⟨s7', e1⟩ := Uc n hg hn a0 a1 a3 a4 a5 hv hvl hk (top := v[k]) (by omega) (hb k _ hget) v[k] 0 s7 (by omega)
  obtain ⟨s6', s7'', e2⟩ := XO hb m (k + 1) (.fr (.int k)) s7' (by omega)
  refine ⟨s6', s7'', ?_⟩
  have ix : ixD (zq v) (.int (k : Int)) = some (.int (v[k] : Int)) := Wy (by rw [g0w, hget]; rfl)
  have ra : wV [.int (v[k] : Int)] = some (zY ((0 : Nat) : Int) (v[k] : Int)) := y8 (by omega) (by omega)
  rw [xF (by omega)]
  unfold yK
  simp only [yu, g0a, g0j, g0h, xv, ue, zm, zv, zp, yk, g0c, g0b, ix, ra]
  rw [e1]
  exact e2
end
theorem law_true (ns : List Int) (hl : ns.length <= 63) : g_law [.lst (ns.map D.int)] = some (.bl true) := by
 have c4 := jx ns 4 hl
 have c4' : zT [.lst (ns.map D.int), .int 4] = some (.int (wx ns 4)) := c4
 have m4 := y4 (i := wx ns 4) (show (0 : Int) < 4 by decide)
 have z2 : 0 + 1 + 1 <= sizeLine := szl (by decide)
 have z2' : 2 <= sizeLine := szl (by decide)
 have z4' : 4 <= sizeLine := szl (by decide)
 obtain ⟨n, ts, h1, h6, ht, hlen, hv⟩ : ∃ (n : Nat) (ts : List T3), 1 <= n /\ n <= 6 /\ Vy n ts /\ ts.length <= 36 /\ vC [.lst (ns.map D.int), .int (if decide (wx ns 4 % 4 = 2) = true then 6 else 4)] = some (zj n ts) := by
  by_cases c : wx ns 4 % 4 = 2
  ·obtain ⟨n, ts, h1, h6, ht, hlen, hv⟩ := X6 ns hl 6 (by decide) (by decide)
   exact ⟨n, ts, h1, h6, ht, hlen, by simpa [c] using hv⟩
  ·obtain ⟨n, ts, h1, h6, ht, hlen, hv⟩ := X6 ns hl 4 (by decide) (by decide)
   exact ⟨n, ts, h1, by omega, ht, hlen, by simpa [c] using hv⟩
 have hg := ht.good
 have hix1 : ixD (.lst [.int 4, .int 6]) (.int (if decide (wx ns 4 % 4 = 2) = true then 1 else 0)) = some (.int (if decide (wx ns 4 % 4 = 2) = true then 6 else 4)) := by
  by_cases c : wx ns 4 % 4 = 2 <;> simp [c, ixD, atI, ixN]
 obtain ⟨m, hm10, hix3⟩ : ∃ m : Nat, m <= 10 /\ ixD (.lst [.int 10, .int 8, .int 7, .int 4]) (.int (wx ns 4 % 4)) = some (.int (m : Int)) := by
  have h0 : wx ns 4 % 4 = ((0 : Nat) : Int) \/ wx ns 4 % 4 = ((1 : Nat) : Int) \/ wx ns 4 % 4 = ((2 : Nat) : Int) \/ wx ns 4 % 4 = ((3 : Nat) : Int) := by omega
  rcases h0 with e | e | e | e <;> rw [e]
  ·exact ⟨10, by decide, uJ rfl⟩
  ·exact ⟨8, by decide, uJ rfl⟩
  ·exact ⟨7, by decide, uJ rfl⟩
  ·exact ⟨4, by decide, uJ rfl⟩
 obtain ⟨w, hwl, hw, wv⟩ := KB ns hl n ts h1 7 m (by omega)
 have wv : vM [.lst (ns.map D.int), zj n ts, .int 7, .int (m : Int)] = some (zq w) := wv
 have hw' : InW n w := hw
 obtain ⟨P, v, tv, pw, v1, hsv, v3, v6, hPl⟩ := WN hg h6 hw' (by omega)
 have v2 := hsv.1
 have lv := X4 n hg h6 hw' v1 (by omega) (by omega)
 have lw := Ve n hg hw' (by omega) P
 have pwv := Uy n hg hw' (by omega) P
 rw [pw] at lw pwv
 have lw : wm [zj n ts, zq w, .lst (P.map mvD)] = some (zq v) := lw
 have pwv : uG [zj n ts, zq w, .lst (P.map mvD)] = some (zq v) := pwv
 have sv := U6 n hg h6 v2 (by omega)
 rw [(Za hg v2).mpr hsv] at sv
 have im1 := Zt n hg (w := v) (by omega) v2
 have im2 := Zt n hg (w := w) (by omega) hw
 have eim : qS ts n v = qS ts n w := by
  unfold qS
  apply g2g
  intro i _
  exact v3 _ (zh n i)
 rw [eim] at im1
 have ni := BE (Q2 (qS ts n w))
 have hbelow : ∀ k i, v[k]? = some i -> ∀ j, j < i -> kR (yd (zf ts) (v.drop k).reverse (ye n j)) = false := by
  intro k i hki j hj
  obtain ⟨hk, rfl⟩ := g0y.mp hki
  have hsp : v = v.take k ++ v.drop k := (g2m k v).symm
  have h1 : Lst ts n (w.reverse ++ v.take k) (v.drop k) := by
   apply Lst.split
   rw [g2m]
   exact v1
  rw [g1f hk] at h1
  cases h1 with
  | cons hf _ =>
   obtain ⟨_, _, hlow⟩ := uH hf
   have := hlow j hj
   have hvr : InW n (v.drop k) := fun x hx => v2 x (g2j hx)
   have e0 : Eqv (zf ts) n (w.reverse ++ v) [] := by
    have a := (Eqv.rfl' (A := zf ts) (n := n) w.reverse).app v3
    exact a.trans (kN (zW ts) hw')
   have e1 : Eqv (zf ts) n (w.reverse ++ v.take k) (v.drop k).reverse := by
    have a1 : Eqv (zf ts) n ((w.reverse ++ v.take k) ++ (v.drop k ++ (v.drop k).reverse)) ((w.reverse ++ v.take k) ++ []) := (Eqv.rfl' _).app (jt (zW ts) hvr)
    have a2 : Eqv (zf ts) n ((w.reverse ++ v) ++ (v.drop k).reverse) ([] ++ (v.drop k).reverse) := e0.app (Eqv.rfl' _)
    have a3 : (w.reverse ++ v.take k) ++ (v.drop k ++ (v.drop k).reverse) = (w.reverse ++ v) ++ (v.drop k).reverse := by
     have a4 : v ++ (v.drop k).reverse = v.take k ++ (v.drop k ++ (v.drop k).reverse) := by rw [<- g0x, g2m]
     rw [g0x, g0x, a4]
    rw [a3, g0t] at a1
    rw [g0n] at a2
    exact a1.symm.trans a2
   rw [<- e1 (ye n j) (zh n j)]
   exact this
 have en : ixD (zj n ts) (.int 0) = some (.int n) := by unfold zj; exact ix0
 have et : ixD (zj n ts) (.int 1) = some (.lst (ts.map tD)) := by unfold zj; exact ix1
 have hm : D.tup [.int (n : Int), .lst (ts.map tD)] = zj n ts := rfl
 have ra : wV [.int (v.length : Int)] = some (zY ((0 : Nat) : Int) (v.length : Int)) := y8 (by omega) (by omega)
 have hlv : WG [zq v] = some (.int (v.length : Int)) := by simp [zq]
 have nn : isD false (zq v) .non = some (.bl false) := rfl
 obtain ⟨s6, s7, e⟩ := XO n hg h6 (.fr (.lst (ns.map D.int))) (.fr (.bl (decide (wx ns 4 % 4 = 2)))) (.fr (zq w)) (.fr (zj n ts)) (.fr (.lst (P.map mvD))) v2 (by omega) hbelow v.length 0 .no .no (by omega)
 unfold in8 at e
 unfold g_law Ct
 simp only [zP, zt, g0f, g0o, g0d, g0e, Nat.reduceAdd, Nat.reduceSub, g0g, g0p, g0n, zN, yj, zD, zm, yk, zv, xc, g0c, g0b, g0a, zp, c4', m4, uo, xX, XF, if_pos z2, if_pos z2', if_pos z4', g1o, CU, hix1, hix3, hv, wv, g0j, g0h, x6, HW, en, et, hm, tv, lw, nn, yH, vK, xK, yn, sv, g1l, g0l, if_false, x8, im1, im2, ni, hlv, xv, ue, ra]
 rw [e]
 simp only [g0a, zR, VO, zp, yk, g0c, g0b, zD, zm, zv, pwv, lv, Ka (Xs v), if_true, Ka (Kg n ts), z9]
end Pk52
def PySem.W.Fast.tw2325039297602173915 := 0
def PySem.W.Fast.tw4923135959580404835 := 0
def PySem.W.Fast.tw3995160749114498255 := 0
def PySem.W.Fast.tw5166527535370372481 := 0
def PySem.W.Fast.tw4433544056281445767 := 0
def PySem.W.Fast.tw3396224903883793069 := 0
def PySem.W.Fast.tw1789576397544199518 := 0
def PySem.W.Fast.tw10673187822651196990 := 0
def PySem.W.Fast.tw1922509615914024942 := 0
def PySem.W.Fast.tw4750638859153323687 := 0
def PySem.W.Fast.tw6209081668263019592 := 0
def PySem.W.Fast.tw10125791258396186786 := 0
def PySem.W.Fast.tw7878656731625031766 := 0
def PySem.W.Fast.tw14432320303715669726 := 0
def PySem.W.Fast.tw7486332801939697504 := 0
def PySem.W.Fast.tw9154889434053581545 := 0
def PySem.W.Fast.tw78435824965654558 := 0
def PySem.W.Fast.tw4486292576712415726 := 0
def PySem.W.Fast.tw8120723067310857162 := 0
def PySem.W.Fast.tw15090581672726691961 := 0
def PySem.W.Fast.tw13488508401259595894 := 0
def PySem.W.Fast.tw3751955886445101045 := 0
def PySem.W.Fast.tw11216908245761212536 := 0
def PySem.W.Fast.tw6578897559499597762 := 0
def PySem.W.Fast.tw12343136888160617108 := 0
def PySem.W.Fast.tw17388155715321233445 := 0
def PySem.W.Fast.tw4210027053965040310 := 0
def PySem.W.Fast.tw2951956376322708415 := 0
def PySem.W.Fast.tw16969258752053337913 := 0
def PySem.W.Fast.tw5099344301967019693 := 0
def PySem.W.Fast.tw4455046735051855849 := 0
def PySem.W.Fast.tw12373531223406353681 := 0
def PySem.W.Fast.tw12651438812137403751 := 0
def PySem.W.Fast.tw11944567900284285136 := 0
def PySem.W.Fast.tw8427041171937163678 := 0
def PySem.W.Fast.tw18098123616531633419 := 0
def PySem.W.Fast.tw11379987727624045886 := 0
def PySem.W.Fast.tw15823530934728326911 := 0
def PySem.W.Fast.tw257976706702505438 := 0
def PySem.W.Fast.tw13795403174909406971 := 0
def PySem.W.Fast.tw15515309518925071276 := 0
def PySem.W.Fast.tw5706189087201842242 := 0
def PySem.W.Fast.tw3182987179553386654 := 0
def PySem.W.Fast.tw2462159482759467142 := 0
def PySem.W.Fast.tw3450248278270753489 := 0
def PySem.W.Fast.tw13949241660336012653 := 0
def PySem.W.Fast.tw1489113409822456603 := 0
def PySem.W.Fast.tw16368485543166915565 := 0
def PySem.W.Fast.tw17813639592484769774 := 0
def PySem.W.Fast.tw8543025859039975911 := 0
def PySem.W.Fast.tw17554893788192621599 := 0
def PySem.W.Fast.tw5677223198539062610 := 0
def PySem.W.Fast.tw11462001710950874734 := 0
def PySem.W.Fast.tw14835218926236713212 := 0
def PySem.W.Fast.tw6090093970739046159 := 0
def PySem.W.Fast.tw15174552084841370969 := 0
def PySem.W.Fast.tw7331306816541643105 := 0
def PySem.W.Fast.tw3469459032929183178 := 0
def PySem.W.Fast.tw13930513084576762620 := 0
def PySem.W.Fast.tw17397607567244287046 := 0
def PySem.W.Fast.tw15216707346920802182 := 0
def PySem.W.Fast.tw13192456310528709219 := 0
def PySem.W.Fast.tw5439212633214888530 := 0
def PySem.W.Fast.tw8589487219684987759 := 0
def PySem.W.Fast.tw18045003435377612090 := 0
def PySem.W.Fast.tw11619718271812384850 := 0
def PySem.W.Fast.tw17054829628195872917 := 0
def PySem.W.Fast.tw6433499453361802194 := 0
def PySem.W.Fast.tw18018715327759014735 := 0
def PySem.W.Fast.tw16236497567477656903 := 0
def PySem.W.Fast.tw8761512663538561444 := 0
def PySem.W.Fast.tw11480632944616051211 := 0
def PySem.W.Fast.tw1619454593500123683 := 0
def PySem.W.Fast.tw7899457085649263260 := 0
def PySem.W.Fast.tw11899555449759397808 := 0
def PySem.W.Fast.tw12453020733743107001 := 0
def PySem.W.Fast.tw12940873833012843847 := 0
def PySem.W.Fast.tw3112118548129816545 := 0
def PySem.W.Fast.tw17941548236215982462 := 0
def PySem.W.Fast.tw6367437107669726301 := 0
def PySem.W.Fast.tw14785614630052063903 := 0
def PySem.W.Fast.tw15886129245657666137 := 0
def PySem.W.Fast.tw6166835355087067740 := 0
def PySem.W.Fast.tw1772632135683124393 := 0
def PySem.W.Fast.tw3262456650277765044 := 0
def PySem.W.Fast.tw10616504758626128751 := 0
def PySem.W.Fast.tw16495733961481789947 := 0
def PySem.W.Fast.tw15170750610969159730 := 0
def PySem.W.Fast.tw3558552879907526473 := 0
def PySem.W.Fast.tw9158497849014993075 := 0
def PySem.W.Fast.tw1135367934388610710 := 0
def PySem.W.Fast.tw16956319835179660144 := 0
def PySem.W.Fast.tw12350416258268517883 := 0
def PySem.W.Fast.tw11201480661258928398 := 0
def PySem.W.Fast.tw17004720994289886274 := 0
def PySem.W.Fast.tw5426804148752664574 := 0
def PySem.W.Fast.tw10284305293958400135 := 0
def PySem.W.Fast.tw16619471841950173469 := 0
def PySem.W.Fast.tw17467336127277063534 := 0
def PySem.W.Fast.tw17013643150105135635 := 0
def PySem.W.Fast.tw6161892571428271374 := 0
def PySem.W.Fast.tw18435045309245791932 := 0
def PySem.W.Fast.tw14664293986969406399 := 0
def PySem.W.Fast.tw12202729463581023861 := 0
def PySem.W.Fast.tw9000160849239809607 := 0
def PySem.W.Fast.tw1380774303201902715 := 0
def PySem.W.Fast.tw9277929863279688719 := 0
def PySem.W.Fast.tw5299086733045707451 := 0
def PySem.W.Fast.tw7361380839148574048 := 0
def PySem.W.Fast.tw13231995964569616751 := 0
def PySem.W.Fast.tw15520981040304246584 := 0
def PySem.W.Fast.tw8270602661064098439 := 0
def PySem.W.Fast.tw10933182469057017020 := 0
def PySem.W.Fast.tw13230505796916978453 := 0
def PySem.W.Fast.tw10631944032523761431 := 0
def PySem.W.Fast.tw10214340083351108027 := 0
def PySem.W.Fast.tw3486253559820984050 := 0
def PySem.W.Fast.tw16817392450428336645 := 0
def PySem.W.Fast.tw10756457053996625121 := 0
def PySem.W.Fast.tw3461630086143163646 := 0
def PySem.W.Fast.tw11901490274875670082 := 0
def PySem.W.Fast.tw6724627014115345387 := 0
def PySem.W.Fast.tw93128619480968501 := 0
def PySem.W.Fast.tw10306136845630771557 := 0
def PySem.W.Fast.tw14475124098281472250 := 0
def PySem.W.Fast.tw621445075345919126 := 0
def PySem.W.Fast.tw10444394954578177539 := 0
def PySem.W.Fast.tw14581597327555542739 := 0
def PySem.W.Fast.tw5110095669841127841 := 0
open PySem PySem.W PyProof.Rows FL L2 in
set_option maxRecDepth 100000 in
set_option maxHeartbeats 0 in
theorem PySem.Challenge.cw_mirrorhouse_k52_whole_papers_to_the_leas_holds : PySem.Challenge.rw_mirrorhouse_k52_whole_papers_to_the_leas.Holds := by
 w_on; refine holds_law (by kernel_rfl) fun said => ?_; k_head; (case hw => w_witness2)
 k_fill
 refine L2.walk_ofK (l := PySem.Challenge.rw_mirrorhouse_k52_whole_papers_to_the_leas) (n := 63) (k := 25) (x := "_law_script") (CX := CX0) (sp := fun K => FL.spF K 1 Pk52.g_law) rfl (by decide) rfl ⟨rfl, by decide, by decide⟩ (fun w h Y => PySem.W.kIn_of Y) ?F (fun K H a ns hl _ hS => FL.law_sp hS (Pk52.law_true ns hl)) (fun _ _ _ _ z => z)
 case F =>
  intro w mg fa h KX G hmg
  refine' Pk52.all_mk KX G hmg ?a0 ?l0 ?c0 ?k0 ?a1 ?l1 ?c1 ?k1 ?a2 ?l2 ?c2 ?k2 ?a3 ?l3 ?c3 ?k3 ?a4 ?l4 ?c4 ?k4 ?a5 ?l5 ?c5 ?k5 ?a6 ?l6 ?c6 ?k6 ?a7 ?l7 ?c7 ?k7 ?a8 ?l8 ?c8 ?k8 ?a9 ?l9 ?c9 ?k9 ?a10 ?l10 ?c10 ?k10 ?a11 ?l11 ?c11 ?k11 ?a12 ?l12 ?c12 ?k12 ?a13 ?l13 ?c13 ?k13 ?a14 ?l14 ?c14 ?k14 ?a15 ?l15 ?c15 ?k15 ?a16 ?l16 ?c16 ?k16 ?a17 ?l17 ?c17 ?k17 ?a18 ?l18 ?c18 ?k18 ?a19 ?l19 ?c19 ?k19 ?a20 ?l20 ?c20 ?k20 ?a21 ?l21 ?c21 ?k21 ?a22 ?l22 ?c22 ?k22 ?a23 ?l23 ?c23 ?k23 ?a24 ?l24 ?c24 ?k24 ?a25 ?l25 ?c25 ?k25 ?a26 ?l26 ?c26 ?k26 ?a27 ?l27 ?c27 ?k27 ?a28 ?l28 ?c28 ?k28 ?a29 ?l29 ?c29 ?k29 ?a30 ?l30 ?c30 ?k30 ?a31 ?l31 ?c31 ?k31 ?a32 ?l32 ?c32 ?k32 ?a33 ?l33 ?c33 ?k33 ?a34 ?l34 ?c34 ?k34 ?a35 ?l35 ?c35 ?k35 ?a36 ?l36 ?c36 ?k36 ?a37 ?l37 ?c37 ?k37 ?a38 ?l38 ?c38 ?k38 ?a39 ?l39 ?c39 ?k39 ?a40 ?l40 ?c40 ?k40 ?a41 ?l41 ?c41 ?k41 ?a42 ?l42 ?c42 ?k42 ?a43 ?l43 ?c43 ?k43 ?b_all ?b_bool ?b_enumerate ?b_int ?b_isinstance ?b_len ?b_list ?b_max ?b_min ?b_range ?b_reversed ?b_tuple ?b_zip ?q_DROP ?q_NEVER ?q_NOT_TOLD ?q_NOUGHT ?r_NOUGHT ?q_ONE ?r_ONE ?q_PULLS_BELOW_NOUGHT ?r_PULLS_BELOW_NOUGHT ?r_PULLS_BELOW_NOUGHT_0 ?r_PULLS_BELOW_NOUGHT_1 ?r_PULLS_BELOW_NOUGHT_2 ?r_PULLS_BELOW_NOUGHT_3 ?r_PULLS_BELOW_NOUGHT_4 ?r_PULLS_BELOW_NOUGHT_5 ?q_TURN ?wC ?wa0 ?wi0 ?wl0 ?wc0 ?wk0 ?wa1 ?wi1 ?wl1 ?wc1 ?wk1 ?wa2 ?wi2 ?wl2 ?wc2 ?wk2 ?wa3 ?wi3 ?wl3 ?wc3 ?wk3 ?wpg ?whd ?wpo ?wsa ?wmk ?wkc ?wnh ?wnw ?wnm
  (case a0 => k_is)
  (case l0 => k_is)
  (case c0 => k_is)
  (case k0 => k_is)
  (case a1 => k_is)
  (case l1 => k_is)
  (case c1 => k_is)
  (case k1 => k_is)
  (case a2 => k_is)
  (case l2 => k_is)
  (case c2 => k_is)
  (case k2 => k_is)
  (case a3 => k_is)
  (case l3 => k_is)
  (case c3 => k_is)
  (case k3 => k_is)
  (case a4 => k_is)
  (case l4 => k_is)
  (case c4 => k_is)
  (case k4 => k_is)
  (case a5 => k_is)
  (case l5 => k_is)
  (case c5 => k_is)
  (case k5 => k_is)
  (case a6 => k_is)
  (case l6 => k_is)
  (case c6 => k_is)
  (case k6 => k_is)
  (case a7 => k_is)
  (case l7 => k_is)
  (case c7 => k_is)
  (case k7 => k_is)
  (case a8 => k_is)
  (case l8 => k_is)
  (case c8 => k_is)
  (case k8 => k_is)
  (case a9 => k_is)
  (case l9 => k_is)
  (case c9 => k_is)
  (case k9 => k_is)
  (case a10 => k_is)
  (case l10 => k_is)
  (case c10 => k_is)
  (case k10 => k_is)
  (case a11 => k_is)
  (case l11 => k_is)
  (case c11 => k_is)
  (case k11 => k_is)
  (case a12 => k_is)
  (case l12 => k_is)
  (case c12 => k_is)
  (case k12 => k_is)
  (case a13 => k_is)
  (case l13 => k_is)
  (case c13 => k_is)
  (case k13 => k_is)
  (case a14 => k_is)
  (case l14 => k_is)
  (case c14 => k_is)
  (case k14 => k_is)
  (case a15 => k_is)
  (case l15 => k_is)
  (case c15 => k_is)
  (case k15 => k_is)
  (case a16 => k_is)
  (case l16 => k_is)
  (case c16 => k_is)
  (case k16 => k_is)
  (case a17 => k_is)
  (case l17 => k_is)
  (case c17 => k_is)
  (case k17 => k_is)
  (case a18 => k_is)
  (case l18 => k_is)
  (case c18 => k_is)
  (case k18 => k_is)
  (case a19 => k_is)
  (case l19 => k_is)
  (case c19 => k_is)
  (case k19 => k_is)
  (case a20 => k_is)
  (case l20 => k_is)
  (case c20 => k_is)
  (case k20 => k_is)
  (case a21 => k_is)
  (case l21 => k_is)
  (case c21 => k_is)
  (case k21 => k_is)
  (case a22 => k_is)
  (case l22 => k_is)
  (case c22 => k_is)
  (case k22 => k_is)
  (case a23 => k_is)
  (case l23 => k_is)
  (case c23 => k_is)
  (case k23 => k_is)
  (case a24 => k_is)
  (case l24 => k_is)
  (case c24 => k_is)
  (case k24 => k_is)
  (case a25 => k_is)
  (case l25 => k_is)
  (case c25 => k_is)
  (case k25 => k_is)
  (case a26 => k_is)
  (case l26 => k_is)
  (case c26 => k_is)
  (case k26 => k_is)
  (case a27 => k_is)
  (case l27 => k_is)
  (case c27 => k_is)
  (case k27 => k_is)
  (case a28 => k_is)
  (case l28 => k_is)
  (case c28 => k_is)
  (case k28 => k_is)
  (case a29 => k_is)
  (case l29 => k_is)
  (case c29 => k_is)
  (case k29 => k_is)
  (case a30 => k_is)
  (case l30 => k_is)
  (case c30 => k_is)
  (case k30 => k_is)
  (case a31 => k_is)
  (case l31 => k_is)
  (case c31 => k_is)
  (case k31 => k_is)
  (case a32 => k_is)
  (case l32 => k_is)
  (case c32 => k_is)
  (case k32 => k_is)
  (case a33 => k_is)
  (case l33 => k_is)
  (case c33 => k_is)
  (case k33 => k_is)
  (case a34 => k_is)
  (case l34 => k_is)
  (case c34 => k_is)
  (case k34 => k_is)
  (case a35 => k_is)
  (case l35 => k_is)
  (case c35 => k_is)
  (case k35 => k_is)
  (case a36 => k_is)
  (case l36 => k_is)
  (case c36 => k_is)
  (case k36 => k_is)
  (case a37 => k_is)
  (case l37 => k_is)
  (case c37 => k_is)
  (case k37 => k_is)
  (case a38 => k_is)
  (case l38 => k_is)
  (case c38 => k_is)
  (case k38 => k_is)
  (case a39 => k_is)
  (case l39 => k_is)
  (case c39 => k_is)
  (case k39 => k_is)
  (case a40 => k_is)
  (case l40 => k_is)
  (case c40 => k_is)
  (case k40 => k_is)
  (case a41 => k_is)
  (case l41 => k_is)
  (case c41 => k_is)
  (case k41 => k_is)
  (case a42 => k_is)
  (case l42 => k_is)
  (case c42 => k_is)
  (case k42 => k_is)
  (case a43 => k_is)
  (case l43 => k_is)
  (case c43 => k_is)
  (case k43 => k_is)
  (case b_all => k_is)
  (case b_bool => k_is)
  (case b_enumerate => k_is)
  (case b_int => k_is)
  (case b_isinstance => k_is)
  (case b_len => k_is)
  (case b_list => k_is)
  (case b_max => k_is)
  (case b_min => k_is)
  (case b_range => k_is)
  (case b_reversed => k_is)
  (case b_tuple => k_is)
  (case b_zip => k_is)
  (case q_DROP => k_is)
  (case q_NEVER => k_is)
  (case q_NOT_TOLD => k_is)
  (case q_NOUGHT => k_is)
  (case r_NOUGHT => k_is)
  (case q_ONE => k_is)
  (case r_ONE => k_is)
  (case q_PULLS_BELOW_NOUGHT => k_is)
  (case r_PULLS_BELOW_NOUGHT => k_is)
  (case r_PULLS_BELOW_NOUGHT_0 => k_is)
  (case r_PULLS_BELOW_NOUGHT_1 => k_is)
  (case r_PULLS_BELOW_NOUGHT_2 => k_is)
  (case r_PULLS_BELOW_NOUGHT_3 => k_is)
  (case r_PULLS_BELOW_NOUGHT_4 => k_is)
  (case r_PULLS_BELOW_NOUGHT_5 => k_is)
  (case q_TURN => k_is)
  (case wC => k_is)
  (case wa0 => k_is)
  (case wi0 => k_is)
  (case wl0 => k_is)
  (case wc0 => k_is)
  (case wk0 => k_is)
  (case wa1 => k_is)
  (case wi1 => k_is)
  (case wl1 => k_is)
  (case wc1 => k_is)
  (case wk1 => k_is)
  (case wa2 => k_is)
  (case wi2 => k_is)
  (case wl2 => k_is)
  (case wc2 => k_is)
  (case wk2 => k_is)
  (case wa3 => k_is)
  (case wi3 => k_is)
  (case wl3 => k_is)
  (case wc3 => k_is)
  (case wk3 => k_is)
  (case wpg => k_is)
  (case whd => k_is)
  (case wpo => k_is)
  (case wsa => k_is)
  (case wmk => k_is)
  (case wkc => k_is)
  (case wnh => k_is)
  (case wnw => k_is)
  (case wnm => k_is)
