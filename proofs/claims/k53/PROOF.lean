import PyProof.Rows.All
import Wide.All
import OpenK.AllK
import Wide.FinOn
import PyProof.EqAt
import PyProof.EqKinds
import PyProof.TupleCall
import PyProof.ListMulAny
import KE.KIsAll
import Lean
import PySem.Challenge.RW_mirrorhouse_k53_whole_same_by_papers
open Option renaming bind_some → g0a, map_some → g1w, some → g2s, getD_some → g3c
open List renaming getElem?_cons_zero → g0b, getElem?_cons_succ → g0c, length_cons → g0d, set_cons_zero → g0e, length_append → g0f, length_nil → g0g, set_cons_succ → g0h, replicate → g0i, map_cons → g0j, getD_eq_getElem?_getD → g0l, mem_cons → g0m, mem_cons_of_mem → g0n, nil_append → g0p, map_nil → g0q, cons_append → g0r, mem_cons_self → g0s, append_nil → g0t, size_toArray → g0u, mem_append_right → g0v, getElem?_map → g0w, getElem?_eq_getElem → g0x, getElem?_eq_some_iff → g0y, getElem?_append_right → g0z, getElem?_set → g1a, length_take → g1c, getElem?_eq_none → g1e, range → g1f, append_assoc → g1g, mem_append → g1h, getElem?_append_left → g1i, drop_eq_getElem_cons → g1j, length_drop → g1k, length_map → g1l, map_map → g1o, length_singleton → g1p, replicate_succ → g1r, length_reverse → g1s, lookup_cons → g1t, getElem?_replicate → g1u, lookup → g1v, map_append → g1x, reverse_reverse → g1z, range_succ_eq_map → g2b, take_of_length_le → g2c, drop_of_length_le → g2d, reverse_cons → g2f, mem_of_getElem? → g2g, mem_of_mem_drop → g2i, mem_of_mem_take → g2j, flatten_cons → g2k, map_congr_left → g2l, forIn_cons → g2n, ext_getElem? → g2o, mem_map → g2q, eq_nil_of_length_eq_zero → g2r, length → g2u, getElem?_reverse → g2v, singleton_append → g2w, mem_append_left → g2y, forIn_nil → g2z, zipIdx_cons → g3b, filterMap_cons → g3e, find?_eq_none → g3h
open Bool renaming false_eq_true → g0k, not_true → g1m, not_false → g1n, false_ne_true → g1q, and_eq_true → g3a
open Nat renaming le_refl → g0o, ne_of_lt → g1b, lt_of_lt_of_le → g1d, le_trans → g1y, zero_add → g2a, zero_le → g2e, pow_le_pow_right → g2h, lt_succ_self → g2m, min_eq_left → g2p, le_of_lt → g2t, lt_irrefl → g2x, min_eq_right → g3d, not_lt → g3f, lt_of_le_of_lt → g3g, add_sub_cancel_left → g3i
set_option Elab.async false
set_option linter.all false
set_option maxRecDepth 100000
namespace L2
open PySem PySem.Spec PyProof.Rows
abbrev Key := Sum Int Str
def CV : Key -> Value -> Bool
 | .inl k, v => Value.isInt k v
 | .inr x, v => Value.isStrOf x v
def MK (w : World) : Key -> Int
 | .inl k => hashInt k
 | .inr x => hashStr w x
theorem yW : ∀ {k : Key} {v : Value}, CV k v = true -> (∃ i t, k = Sum.inl i /\ v = Value.int i t) \/ (∃ x t, k = Sum.inr x /\ v = Value.str x t)
 | .inl i, v, h => by
  obtain ⟨t, e⟩ := Value.isInt_shape (k := i) (v := v) h
  exact .inl ⟨i, t, rfl, e⟩
 | .inr x, v, h => by
  obtain ⟨t, e⟩ := Value.isStrOf_shape (x := x) (v := v) h
  exact .inr ⟨x, t, rfl, e⟩
theorem CU (a b : Int) : decide ((Sum.inl a : Key) = Sum.inl b) = (a == b) := by
 by_cases e : a = b
 ·subst e; simp
 ·have h : ¬ (Sum.inl a : Key) = Sum.inl b := fun q => e (Sum.inl.inj q)
  rw [decide_eq_false h]
  exact (beq_eq_false_iff_ne.mpr e).symm
theorem CQ (a b : Str) : decide ((Sum.inr a : Key) = Sum.inr b) = decide (a = b) := by
 by_cases e : a = b
 ·subst e; simp
 ·have h : ¬ (Sum.inr a : Key) = Sum.inr b := fun q => e (Sum.inr.inj q)
  rw [decide_eq_false h, decide_eq_false e]
theorem CT (a : Int) (b : Str) : decide ((Sum.inl a : Key) = Sum.inr b) = false := decide_eq_false (fun q => nomatch q)
theorem CS (a : Str) (b : Int) : decide ((Sum.inr a : Key) = Sum.inl b) = false := decide_eq_false (fun q => nomatch q)
def QG (prog : Program) (w : World) : PySem.KeyKind prog w Key where
 is := CV
 hash := MK w
 inj := fun v a b ha hb => by
  rcases yW ha with ⟨i, t, rfl, rfl⟩ | ⟨x, t, rfl, rfl⟩
  ·rcases yW hb with ⟨j, u, rfl, e⟩ | ⟨y, u, rfl, e⟩
   ·injection e with e1 _; rw [e1]
   ·exact nomatch e
  ·rcases yW hb with ⟨j, u, rfl, e⟩ | ⟨y, u, rfl, e⟩
   ·exact nomatch e
   ·injection e with e1 _; rw [e1]
 byValue := fun k v h => by
  rcases yW h with ⟨i, t, rfl, rfl⟩ | ⟨x, t, rfl, rfl⟩ <;> rfl
 pyHash := fun hv h => by
  rcases yW hv with ⟨i, t, rfl, rfl⟩ | ⟨x, t, rfl, rfl⟩
  ·exact wpAny_pyHash_int h
  ·exact wpAny_pyHash_str h
 eqBool := fun hu hv h => by
  rcases yW hu with ⟨i, t, rfl, rfl⟩ | ⟨x, t, rfl, rfl⟩
  ·rcases yW hv with ⟨j, u, rfl, rfl⟩ | ⟨y, u, rfl, rfl⟩
   ·rw [CU] at h; exact wpAny_eqBool_int h
   ·rw [CT] at h; exact SeqAt.EqAt.int_str i t y u _ _ _ _ h
  ·rcases yW hv with ⟨j, u, rfl, rfl⟩ | ⟨y, u, rfl, rfl⟩
   ·rw [CS] at h; exact SeqAt.EqAt.str_int x t j u _ _ _ _ h
   ·rw [CQ] at h; exact wpAny_eqBool_str h
 «strs» := fun k x t v h => by
  rcases yW h with ⟨i, u, rfl, e⟩ | ⟨y, u, rfl, e⟩
  ·exact nomatch e
  ·injection e with e1 _
   subst e1
   cases v <;> rfl
inductive V where
 | non | bl (b : Bool) | int (i : Int) | str (x : Str) | byt (b : Array UInt8) | flt (b : UInt64) | ref (a : Addr) | ty (n : String)
 deriving DecidableEq
def xK : V -> Value -> Prop
 | .non, u => u = Value.none
 | .bl b, u => u = Value.bool b
 | .int i, u => ∃ t, u = Value.int i t
 | .str x, u => ∃ t, u = Value.str x t
 | .byt b, u => ∃ t, u = Value.bytes b t
 | .flt b, u => ∃ t, u = Value.float b t
 | .ref a, u => u = Value.ref a
 | .ty n, u => u = Value.type n
abbrev xk : List V -> List Value -> Prop := Paired xK
theorem xk.length {xs : List V} {us : List Value} (r : xk xs us) : xs.length = us.length := Paired.length r
theorem xk.get : ∀ {xs : List V} {us : List Value} {i : Nat} {x : V}, xk xs us -> xs[i]? = some x -> ∃ u, us[i]? = some u /\ xK x u
 | _, _, _, _, .nil, e => by simp at e
 | _, _, 0, _, .cons r _, e => by simp at e; subst e; exact ⟨_, rfl, r⟩
 | _, _, i + 1, x, .cons _ t, e => by
  obtain ⟨u, h1, h2⟩ := xk.get (i := i) (x := x) t (by simpa using e)
  exact ⟨u, by simpa using h1, h2⟩
theorem xk.append : ∀ {xs ys : List V} {us ws : List Value}, xk xs us -> xk ys ws -> xk (xs ++ ys) (us ++ ws)
 | _, _, _, _, .nil, s => s
 | _, _, _, _, .cons r t, s => .cons r (xk.append t s)
theorem xk.take : ∀ {xs : List V} {us : List Value} (n : Nat), xk xs us -> xk (xs.take n) (us.take n)
 | _, _, 0, _ => .nil
 | _, _, _ + 1, .nil => .nil
 | _, _, n + 1, .cons r t => .cons r (xk.take n t)
theorem xk.drop : ∀ {xs : List V} {us : List Value} (n : Nat), xk xs us -> xk (xs.drop n) (us.drop n)
 | _, _, 0, r => r
 | _, _, _ + 1, .nil => .nil
 | _, _, n + 1, .cons _ t => xk.drop n t
def JG : Option V -> Option Value -> Prop
 | some v, some u => xK v u
 | none, none => True
 | _, _ => False
def KV {κ : Type} : List (κ × V) -> List (κ × Value) -> Prop := Paired fun (p : κ × V) (q : κ × Value) => p.1 = q.1 /\ xK p.2 q.2
def kV : Key -> V
 | .inl i => .int i
 | .inr x => .str x
inductive HO where
  | lst (xs : List V)
  | tup (xs : List V)
  | dK (kvs : List (Key × V)) | dT (kvs : List (List Key × V))
  | set (S : Int -> Bool) (n : Nat)
  | ins (C dx : Addr) (fs : List (Str × V))
  | own (x : Addr)
  | xd (fs : List (Str × V))
  | met (f x : Addr)
  | rng (lo hi : Int)
  | frz (o : Obj) (u : HO)
  | tbl (ps : Array Value)
  | ext (φ : Heap -> Prop)
abbrev Hp := Addr -> Option HO
def upd (H : Hp) (a : Addr) (o : HO) : Hp := fun b => if b = a then some o else H b
theorem zz {H : Hp} {a : Addr} {o : HO} : upd H a o a = some o := by unfold upd; rw [if_pos rfl]
theorem zw {H : Hp} {a b : Addr} {o : HO} (h : b ≠ a) : upd H a o b = H b := by unfold upd; rw [if_neg h]
theorem Fi {H : Hp} {a b : Addr} {o u : HO} (h : H a = some o) (h' : H b = some u) (d : o ≠ u) : a ≠ b := by
 intro e; subst e; rw [h] at h'; exact d (g2s.inj h')
theorem zL {H : Hp} {a b : Addr} {o : HO} (h : H a = some o) (h' : H b = none) : a ≠ b := by
 intro e; subst e; rw [h] at h'; cases h'
section
variable (P : Program) (w : World)
def u5 (H : Hp) (h : Heap) (a : Addr) : HO -> Prop
 | .lst xs => xs.length <= sizeLine /\ ∃ (its : List Value) (n : Nat), xk xs its /\ h.get? a = some { cls := .type "list", data := .seq its.toArray n }
 | .tup xs => xs.length <= sizeLine /\ ∃ its : List Value, xk xs its /\ IsTup h a its.toArray
 | .dK kvs => kvs.length <= sizeLine /\ (a == sysModules) = false /\ ∃ vs, KV kvs vs /\ h.DictOf (QG P w) a vs
 | .dT kvs => kvs.length <= sizeLine /\ (a == sysModules) = false /\ ∃ xs : List (List Key × Addr × Value),
   Paired (fun (p : List Key × V) (q : List Key × Addr × Value) => p.1 = q.1 /\ H q.2.1 = some (.tup (p.1.map kV)) /\ xK p.2 q.2.2) kvs xs ∧
   ∃ o es ep, h.get? a = some o /\ o.ExactDict /\ o.data = .dict es ep /\ es.toList = xs.map (entryOfKey (tupleKind (QG P w))) /\ (xs.map (·.1)).Nodup
 | .set S n => h.SetOf (intKind P w) a S n
 | .ins C dx fs => H dx = some (.own a) /\ fs.length <= 1000 /\ dx ≠ a /\ h.get? a = some (PySem.W.instObj C dx) ∧
   ∃ mA, h.Ns1 dx mA /\ (∀ f, JG (fs.lookup f) (mA f)) /\ PySem.Within mA (fs.map (·.1))
 | .own _ => ∃ o, h.get? a = some o
 | .xd fs => ∃ mA, h.Ns1 a mA /\ ∀ f, JG (fs.lookup f) (mA f)
 | .rng lo hi => ∃ t u v, h.get? a = some { cls := .type "range", data := .fields #[.int lo t, .int hi u, .int 1 v] }
 | .frz o u => h.get? a = some o /\ u5 H h a u
 | .tbl ps => h.get? a = some { cls := .none, data := .fields ps }
 | .met f x => h.get? a = some (PySem.W.methodObj (.ref f) (.ref x))
 | .ext φ => φ h /\ (∃ o, h.get? a = some o) /\ ∀ h1 h2 : Heap, φ h1 -> (∀ o, h1.get? a = some o -> h2.get? a = some o) -> φ h2
def HOk (H : Hp) (h : Heap) : Prop := ∀ a o, H a = some o -> u5 P w H h a o
end
section
variable {P : Program} {w : World} {H H' : Hp} {h h' : Heap} {a : Addr} {o : HO}
theorem u5.lt (x : u5 P w H h a o) : a < h.objs.size := by
 cases o with
 | lst xs => obtain ⟨_, _, _, _, e⟩ := x; exact Heap.lt_size e
 | tup xs => obtain ⟨_, _, _, p⟩ := x; exact p.lt
 | dK kvs => obtain ⟨_, _, _, _, o, _, _, e, _⟩ := x; exact Heap.lt_size e
 | dT kvs => obtain ⟨_, _, _, _, o, _, _, e, _⟩ := x; exact Heap.lt_size e
 | set S n => obtain ⟨o, _, _, _, e, _⟩ := x; exact Heap.lt_size e
 | ins C dx fs => obtain ⟨_, _, _, e, _⟩ := x; exact Heap.lt_size e
 | own y => obtain ⟨_, e⟩ := x; exact Heap.lt_size e
 | xd fs => obtain ⟨_, ⟨_, _, _, e, _⟩, _⟩ := x; exact Heap.lt_size e
 | rng lo hi => obtain ⟨_, _, _, e⟩ := x; exact Heap.lt_size e
 | frz ob u => obtain ⟨e, _⟩ := x; exact Heap.lt_size e
 | tbl ps => exact Heap.lt_size (show h.get? a = some _ from x)
 | met f y => exact Heap.lt_size (show h.get? a = some _ from x)
 | ext φ => obtain ⟨_, ⟨_, e⟩, _⟩ := x; exact Heap.lt_size e
theorem Paired.mapP {α β : Type} {F G : α -> β -> Prop} : ∀ {l₁ : List α} {l₂ : List β}, Paired F l₁ l₂ -> (∀ a b, F a b -> G a b) -> Paired G l₁ l₂
 | _, _, .nil, _ => .nil
 | _, _, .cons r t, f => .cons (f _ _ r) (Paired.mapP t f)
theorem u5.stay (x : u5 P w H h a o) (k : ∀ b u, (b = a \/ H b = some (.own a)) -> h.get? b = some u -> h'.get? b = some u)
  (ho : ∀ b, H b = some (.own a) -> H' b = some (.own a)) (ht : ∀ b xs, H b = some (.tup xs) -> H' b = some (.tup xs)) : u5 P w H' h' a o := by
 induction o with
 | lst xs => obtain ⟨z, its, n, r, e⟩ := x; exact ⟨z, its, n, r, k _ _ (.inl rfl) e⟩
 | tup xs => obtain ⟨z, its, r, ob, e, c⟩ := x; exact ⟨z, its, r, ob, k _ _ (.inl rfl) e, c⟩
 | dK kvs => obtain ⟨z, y, vs, r, ob, es, ep, e, c⟩ := x; exact ⟨z, y, vs, r, ob, es, ep, k _ _ (.inl rfl) e, c⟩
 | dT kvs =>
  obtain ⟨z, y, xs, r, ob, es, ep, e, c⟩ := x
  exact ⟨z, y, xs, Paired.mapP r fun p q z => ⟨z.1, ht _ _ z.2.1, z.2.2⟩, ob, es, ep, k _ _ (.inl rfl) e, c⟩
 | set S n => obtain ⟨ob, es, ep, t, e, c⟩ := x; exact ⟨ob, es, ep, t, k _ _ (.inl rfl) e, c⟩
 | ins C dx fs =>
  obtain ⟨d, z, ne, e, mA, ⟨od, es, ep, e2, c⟩, r⟩ := x
  exact ⟨ho _ d, z, ne, k _ _ (.inl rfl) e, mA, ⟨od, es, ep, k _ _ (.inr d) e2, c⟩, r⟩
 | own y => obtain ⟨ob, e⟩ := x; exact ⟨ob, k _ _ (.inl rfl) e⟩
 | xd fs => obtain ⟨mA, ⟨od, es, ep, e, c⟩, r⟩ := x; exact ⟨mA, ⟨od, es, ep, k _ _ (.inl rfl) e, c⟩, r⟩
 | rng lo hi => obtain ⟨t, u, v, e⟩ := x; exact ⟨t, u, v, k _ _ (.inl rfl) e⟩
 | frz ob u ih => obtain ⟨e, q⟩ := x; exact ⟨k _ _ (.inl rfl) e, ih q⟩
 | tbl ps =>
  have e : h.get? a = some { cls := .none, data := .fields ps } := x
  show h'.get? a = some { cls := .none, data := .fields ps }
  exact k a _ (.inl rfl) e
 | met f y =>
  have e : h.get? a = some (PySem.W.methodObj (.ref f) (.ref y)) := x
  show h'.get? a = some (PySem.W.methodObj (.ref f) (.ref y))
  exact k a _ (.inl rfl) e
 | ext φ => obtain ⟨p, ⟨o, e⟩, st⟩ := x; exact ⟨st _ _ p fun o q => k _ _ (.inl rfl) q, ⟨o, k _ _ (.inl rfl) e⟩, st⟩
theorem HOk.lt (x : HOk P w H h) (e : H a = some o) : a < h.objs.size := (x a o e).lt
theorem HOk.fresh (x : HOk P w H h) (e : h.objs.size <= a) : H a = none := by
 cases q : H a with
 | none => rfl
 | some u => exact absurd (g1d (x.lt q) e) (g2x _)
theorem HOk.kept (x : HOk P w H h) (k : ∀ b u, h.get? b = some u -> h'.get? b = some u) : HOk P w H h' := fun a o e =>
 (x a o e).stay (fun b u _ q => k b u q) (fun _ q => q) fun _ _ q => q
theorem HOk.laid (x : HOk P w H h) (k : ∀ b u, h.get? b = some u -> h'.get? b = some u) (hp : h.objs.size <= a) (new : u5 P w (upd H a o) h' a o) : HOk P w (upd H a o) h' := fun b u e => by
 have hn := x.fresh hp
 by_cases hb : b = a
 ·subst hb; rw [zz] at e; cases e; exact new
 ·rw [zw hb] at e
  exact (x b u e).stay (fun c v _ q => k c v q) (fun c q => by rw [zw (zL q hn)]; exact q) fun c xs q => by rw [zw (zL q hn)]; exact q
end
def Rd (H : Hp) (a : Addr) (u : HO) : Prop := H a = some u \/ ∃ o, H a = some (.frz o u)
theorem Rd.ok {P : Program} {w : World} {H : Hp} {h : Heap} {a : Addr} {u : HO} (r : Rd H a u) (x : HOk P w H h) : u5 P w H h a u := by
 rcases r with r | ⟨o, r⟩
 ·exact x a u r
 ·obtain ⟨_, q⟩ := x a _ r
  exact q
def Mut : Option HO -> Prop
 | some (.lst _) => True
 | some (.dK _) => True
 | some (.dT _) => True
 | some (.set _ _) => True
 | some (.ins _ _ _) => True
 | some (.ext _) => True
 | _ => False
section
variable {P : Program} {w : World} {H : Hp} {h h' : Heap} {x e : Addr} {o' : HO}
theorem HOk.write (ok : HOk P w H h) (mu : Mut (H x)) (he : e = x \/ H e = some (.own x)) (k : ∀ b u, b ≠ e -> h.get? b = some u -> h'.get? b = some u) (heo : ∃ u, h'.get? e = some u)
  (new : u5 P w (upd H x o') h' x o') : HOk P w (upd H x o') h' := fun b u q => by
 have nown : ∀ c y, H c = some (.own y) -> c ≠ x := fun c y r z => by subst z; rw [r] at mu; exact mu
 have ntup : ∀ c xs, H c = some (.tup xs) -> c ≠ x := fun c xs r z => by subst z; rw [r] at mu; exact mu
 by_cases hb : b = x
 ·subst hb; rw [zz] at q; cases q; exact new
 ·rw [zw hb] at q
  by_cases hbe : b = e
  ·have q' : H b = some (.own x) := by
    rcases he with z | z
    ·exact absurd (hbe.trans z) hb
    ·rw [hbe]; exact z
   rw [q] at q'; cases q'
   obtain ⟨v, hv⟩ := heo
   exact ⟨v, by rw [hbe]; exact hv⟩
  ·refine (ok b u q).stay (fun c v hc r => k c v ?_ r) (fun c r => by rw [zw (nown c b r)]; exact r) fun c xs r => by rw [zw (ntup c xs r)]; exact r
   rcases hc with rfl | hc
   ·exact hbe
   ·rintro rfl
    rcases he with z | z
    ·exact nown c b hc z
    ·rw [hc] at z; cases z; exact hb rfl
end
structure Un (fs ex : List Addr) (H H' : Hp) (h h' : Heap) : Prop where
 keep : ∀ b o, h.get? b = some o -> H b = none -> b ∉ fs -> b ∉ ex -> h'.get? b = some o
 slot : ∀ b o, h.get? b = some o -> H b = none -> b ∈ fs -> b ∉ ex -> ∃ sl, h'.get? b = some { o with slots := sl }
 free : ∀ b o, h.get? b = some o -> H b = none -> b ∉ ex -> H' b = none
 there : ∀ b o, h.get? b = some o -> b ∉ ex -> ∃ o', h'.get? b = some o'
 tups : ∀ b xs, H b = some (.tup xs) -> H' b = some (.tup xs)
 frzs : ∀ b o u, H b = some (.frz o u) -> H' b = some (.frz o u)
 tbls : ∀ b ps, H b = some (.tbl ps) -> ∃ more, H' b = some (.tbl (ps ++ more))
section
variable {fs fs' ex ex' : List Addr} {H H1 H2 : Hp} {h h1 h2 h' : Heap} {a x e : Addr} {o : HO}
theorem Un.any (u : Un fs ex H H1 h h1) {b : Addr} {ob : Obj} (q : h.get? b = some ob) (n : H b = none) (hx : b ∉ ex) : ∃ sl, h1.get? b = some { ob with slots := sl } := by
 by_cases hb : b ∈ fs
 ·exact u.slot b ob q n hb hx
 ·exact ⟨ob.slots, u.keep b ob q n hb hx⟩
theorem Un.kept (k : ∀ b u, h.get? b = some u -> h'.get? b = some u) : Un fs ex H H h h' :=
 ⟨fun b ob q _ _ _ => k b ob q, fun b ob q _ _ _ => ⟨ob.slots, k b ob q⟩, fun _ _ _ n _ => n, fun b ob q _ => ⟨ob, k b ob q⟩, fun _ _ q => q, fun _ _ _ q => q, fun _ ps q => ⟨#[], by rw [q]; simp⟩⟩
theorem Un.refl : Un fs ex H H h h := Un.kept fun _ _ q => q
theorem Un.laid (k : ∀ b u, h.get? b = some u -> h'.get? b = some u) (hp : h.objs.size <= a) (hn : H a = none) : Un fs ex H (upd H a o) h h' where
 keep := fun b u q _ _ _ => k b u q
 slot := fun b u q _ _ _ => ⟨u.slots, k b u q⟩
 free := fun b u q n _ => by rw [zw (g1b (g1d (Heap.lt_size q) hp))]; exact n
 there := fun b u q _ => ⟨u, k b u q⟩
 tups := fun b xs q => by rw [zw (zL q hn)]; exact q
 frzs := fun b u xs q => by rw [zw (zL q hn)]; exact q
 tbls := fun b ps q => ⟨#[], by rw [zw (zL q hn), q]; simp⟩
theorem Un.write (mu : Mut (H x)) (he : e = x \/ H e = some (.own x)) (k : ∀ b u, b ≠ e -> h.get? b = some u -> h'.get? b = some u) (heo : ∃ u, h'.get? e = some u) : Un fs ex H (upd H x o) h h' := by
 have hx : ∀ b, H b = none -> b ≠ x := fun b n z => by subst z; rw [n] at mu; exact mu
 have hb : ∀ b, H b = none -> b ≠ e := fun b n z => by
  subst z
  rcases he with r | r
  ·exact hx b n r
  ·rw [n] at r; cases r
 have hm : ∀ b u, H b = some u -> ¬ Mut (some u) -> b ≠ x := fun b u q nm z => by subst z; rw [q] at mu; exact nm mu
 refine ⟨fun b u q n _ _ => k b u (hb b n) q, fun b u q n _ _ => ⟨u.slots, k b u (hb b n) q⟩, fun b u q n _ => by rw [zw (hx b n)]; exact n, fun b u q _ => ?_,
  fun b xs q => by rw [zw (hm b _ q fun z => z)]; exact q, fun b u xs q => by rw [zw (hm b _ q fun z => z)]; exact q, fun b ps q => ⟨#[], by rw [zw (hm b _ q fun z => z), q]; simp⟩⟩
 by_cases hbe : b = e
 ·subst hbe; exact heo
 ·exact ⟨u, k b u hbe q⟩
end
def trk (h : Heap) (H : Hp) : List Addr := (g1f h.objs.size).filter fun a => (H a).isSome
def KD (h : Heap) (H : Hp) : Heap := PySem.W.hideAll h (trk h H)
theorem Q1 (h : Heap) (H : Hp) : (KD h H).objs.size = h.objs.size := PySem.W.hideAll_size _ _
theorem KC {h : Heap} {H : Hp} {b : Addr} {o : Obj} (e : h.get? b = some o) (n : H b = none) : (KD h H).get? b = some o :=
 PySem.W.hideAll_get _ e fun hm => by
  have q : (H b).isSome = true := (List.mem_filter.mp hm).2
  rw [n] at q; simp at q
theorem Hz {h : Heap} {H : Hp} {b : Addr} {o : Obj} (e : (KD h H).get? b = some o) : h.get? b = some o /\ H b = none := by
 have e' : h.get? b = some o := PySem.W.of_hideAll (trk h H) e
 refine ⟨e', ?_⟩
 cases q : H b with
 | none => rfl
 | some x =>
  have hm : b ∈ trk h H := List.mem_filter.mpr ⟨List.mem_range.mpr (Heap.lt_size e'), by simp [q]⟩
  have z : (KD h H).get? b = none := PySem.W.hideAll_none (trk h H) hm
  rw [z] at e; cases e
def Bt (g h : Heap) (L : Addr) : List (Addr × Obj) := (g1f h.objs.size).filterMap fun a => if a = L \/ (g.get? a).isSome = true then none else (h.get? a).map fun o => (a, o)
def rest (g h : Heap) (L d : Addr) : List (Addr × Obj) := (Bt g h L).filter fun p => decide (p.1 ≠ d)
structure Mod (K : W.Frag) (mg : Str -> Option Value) (base : Heap) : Prop where
 kin : K.In base
 glob : base.Ns mainGlobals mg
 blt : ∃ mb, base.Ns builtinsNs mb /\ ∀ x : Str, x ≠ "__name__" -> mb x = bootBuiltins x
 nolimit : base.NoLimit
structure Cx where
 prog : Program
 w : World
 K : W.Frag
 mg : Str -> Option Value
 base : Heap
 A : Around
 N : List Str
 s₀ : Shared
 H₀ : Hp
 env : Env
 outer : List Env
 stack : List Env
 ex : List Addr
 fn : Str -> Bool
 calm : Bool
 pn : List (Addr × Obj)
 xe : Value -> Shared -> Prop
def frs (l : List Env) : List Addr := l.filterMap (·.frame)
abbrev Cx.fs (X : Cx) : List Addr := frs X.outer
def Vis (sc : Scope) (x : Str) : Prop := sc.names.lookup x = some .local \/ sc.names.lookup x = some .cell \/ sc.names.lookup x = some .free
def Loc (sc : Scope) (x : Str) : Prop := sc.names.lookup x = some .local \/ sc.names.lookup x = some .cell
def MU (env : Env) (h : Heap) (m : Str -> Option Value) (x : Str) (u : Value) : Prop :=
 (env.kindOf x = some .local /\ m x = some u) \/ ((env.kindOf x = some .cell \/ env.kindOf x = some .free) /\ ∃ c, env.cells.lookup x = some c /\ h.IsCell c (some u))
structure Cx.Ok (X : Cx) : Prop where
 mod : Mod X.K X.mg X.base
 kind : X.env.scope.kind = .function
 glob : X.env.globals = mainGlobals
 blt : X.env.builtins = builtinsNs
 above : X.s₀.heap.objs.size <= X.env.locals
 inj : ∀ x y c, X.env.cells.lookup x = some c -> X.env.cells.lookup y = some c -> x = y
 has : ∀ x, (X.env.kindOf x = some .cell \/ X.env.kindOf x = some .free) -> ∃ c, X.env.cells.lookup x = some c
 cab : ∀ x c, X.fn x = true -> X.env.cells.lookup x = some c -> X.s₀.heap.objs.size <= c
 hd : X.calm = true -> X.A.handled = none
 frames : X.A.frames = some X.stack
 stk : X.stack = X.outer \/ (X.stack = X.env :: X.outer /\ X.env.frame = some X.env.locals)
 exf : ∀ b ∈ X.ex, b ≠ X.env.locals /\ ∀ x c, X.env.cells.lookup x = some c -> c ≠ b
 bs : ∀ b o, X.base.get? b = some o -> X.s₀.heap.get? b = some o /\ X.H₀ b = none
 bsz : X.base.objs.size <= X.s₀.heap.objs.size
 noex : ∀ b o, X.base.get? b = some o -> b ∉ X.ex
 exfs : ∀ b ∈ X.ex, b ∉ X.fs
 funs : X.s₀.heap.FunFrames X.base X.outer
 frf : ∀ b ∈ X.fs, X.H₀ b = none
structure Inv (X : Cx) (pins : List (Addr × Obj)) (σ : List (Option V)) (H : Hp) (s : Shared) : Prop where
 ok : X.Ok
 os : s.os = X.s₀.os
 bare : AllBare s.gens
 base : Un X.fs X.ex X.H₀ H X.s₀.heap s.heap
 loc : ∃ m, s.heap.Ns X.env.locals m /\ ∀ (i : Nat) (x : Str) (v : V), X.N[i]? = some x -> σ[i]? = some (some v) -> Vis X.env.scope x -> ∃ u, xK v u /\ MU X.env s.heap m x u
 cell : ∀ x c, X.env.cells.lookup x = some c -> ∃ v, s.heap.IsCell c v
 free : H X.env.locals = none
 freeC : ∀ x c, X.env.cells.lookup x = some c -> H c = none
 pin : ∀ p ∈ X.pn ++ pins, s.heap.get? p.1 = some p.2 /\ H p.1 = none /\ p.1 ≠ X.env.locals /\ p.1 ∉ X.fs /\ ∀ v, p.2.data ≠ .cell v
 hok : HOk X.prog X.w H s.heap
 len : σ.length = X.N.length
section
variable {X : Cx} {pins : List (Addr × Obj)} {σ : List (Option V)} {H H' : Hp} {s : Shared} {h' : Heap}
theorem Cx.Ok.nofr (ok : X.Ok) {b : Addr} {o : Obj} (e : X.base.get? b = some o) : b ∉ X.fs := fun hb => by
 have := (ok.funs.mem hb).1
 rw [e] at this; cases this
theorem Inv.bs (I : Inv X pins σ H s) : ∀ b o, X.base.get? b = some o -> s.heap.get? b = some o /\ H b = none := fun b o e =>
 ⟨I.base.keep b o (I.ok.bs b o e).1 (I.ok.bs b o e).2 (I.ok.nofr e) (I.ok.noex b o e), I.base.free b o (I.ok.bs b o e).1 (I.ok.bs b o e).2 (I.ok.noex b o e)⟩
theorem Inv.bk (I : Inv X pins σ H s) : ∀ b o, X.base.get? b = some o -> s.heap.get? b = some o := fun b o e => (I.bs b o e).1
theorem Inv.mod (I : Inv X pins σ H s) : Mod X.K X.mg X.base := I.ok.mod
theorem Inv.kIn (I : Inv X pins σ H s) : X.K.In s.heap := I.ok.mod.kin.keeps I.bk
theorem Inv.lt (I : Inv X pins σ H s) : X.env.locals < s.heap.objs.size := let ⟨_, hn, _⟩ := I.loc; hn.lt
theorem Inv.sz (I : Inv X pins σ H s) : X.s₀.heap.objs.size <= s.heap.objs.size := g1y I.ok.above (g2t I.lt)
theorem Inv.nofs (I : Inv X pins σ H s) {a : Addr} (h : s.heap.objs.size <= a) : a ∉ X.fs := fun hb => by
 obtain ⟨_, o, ho, _⟩ := I.ok.funs.mem hb
 exact absurd (g1d (Heap.lt_size ho) (g1y I.sz h)) (g2x _)
theorem Inv.cne (I : Inv X pins σ H s) : ∀ x c, X.env.cells.lookup x = some c -> c ≠ X.env.locals := fun x c e z => by
 obtain ⟨v, o, ho, hd⟩ := I.cell x c e
 obtain ⟨m, ⟨o', es, ep, ho', hd', _⟩, _⟩ := I.loc
 rw [z, ho'] at ho; cases ho; rw [hd'] at hd; cases hd
theorem Inv.funs (I : Inv X pins σ H s) : s.heap.FunFrames X.base X.outer := by
 have all : ∀ (l : List Env), (∀ b ∈ frs l, b ∈ X.fs) -> X.s₀.heap.FunFrames X.base l -> s.heap.FunFrames X.base l := by
  intro l
  induction l with
  | nil => intro _ _; trivial
  | cons env r ih =>
   intro hs hl
   obtain ⟨hk, ⟨L, o, hf, hn, ho, hd⟩, hr⟩ := hl
   have hL : L ∈ X.fs := hs L (by unfold frs; rw [g3e, hf]; exact g0s)
   obtain ⟨sl, e⟩ := I.base.slot L o ho (I.ok.frf L hL) hL fun z => I.ok.exfs L z hL
   exact ⟨hk, ⟨L, _, hf, hn, e, hd⟩, ih (fun b hb => hs b (by unfold frs; rw [g3e, hf]; exact g0n _ hb)) hr⟩
 exact all X.outer (fun _ hb => hb) I.ok.funs
theorem Inv.stack (I : Inv X pins σ H s) : s.heap.FunFrames X.base X.stack := by
 rcases I.ok.stk with e | ⟨e, hf⟩
 ·rw [e]; exact I.funs
 ·rw [e]
  obtain ⟨m, hn, _⟩ := I.loc
  refine .cons (by rw [I.ok.kind]; decide) hf hn ?_ I.funs
  exact Heap.get?_none_of_le (g1y I.ok.bsz I.ok.above)
theorem Inv.stkSub (I : Inv X pins σ H s) : ∀ b ∈ frs X.stack, b ∈ X.env.locals :: X.fs := fun b hb => by
 rcases I.ok.stk with e | ⟨e, hf⟩
 ·rw [e] at hb; exact g0n _ hb
 ·rw [e] at hb
  unfold frs at hb
  rw [g3e, hf] at hb
  exact hb
theorem Inv.stkFree (I : Inv X pins σ H s) : ∀ b ∈ frs X.stack, H b = none := fun b hb => by
 rcases g0m.mp (I.stkSub b hb) with e | hb
 ·rw [e]; exact I.free
 ·obtain ⟨_, o, ho, _⟩ := I.ok.funs.mem hb
  exact I.base.free b o ho (I.ok.frf b hb) fun z => I.ok.exfs b z hb
theorem Inv.step {g' : Array GenState} {t' : Nat} {d' : Drawn} {ch : List Addr} (I : Inv X pins σ H s)
  (hch : ∀ b ∈ ch, (b ∈ X.ex \/ X.s₀.heap.objs.size <= b) /\ b ≠ X.env.locals /\ (∀ x c, X.env.cells.lookup x = some c -> c ≠ b) /\ ∀ p ∈ X.pn ++ pins, p.1 ≠ b)
  (keep : ∀ b o, b ≠ X.env.locals -> b ∉ X.fs -> b ∉ ch -> s.heap.get? b = some o -> H b = none -> h'.get? b = some o)
  (slot : ∀ b o, b ≠ X.env.locals -> b ∈ X.fs -> b ∉ ch -> s.heap.get? b = some o -> H b = none -> ∃ sl, h'.get? b = some { o with slots := sl }) (free : ∀ b o, b ∉ ch -> s.heap.get? b = some o -> H b = none -> H' b = none)
  (there : ∀ b o, b ∉ ch -> s.heap.get? b = some o -> ∃ o', h'.get? b = some o')
  (tups : ∀ b xs, H b = some (.tup xs) -> H' b = some (.tup xs)) (frzs : ∀ b o u, H b = some (.frz o u) -> H' b = some (.frz o u)) (tbls : ∀ b ps, H b = some (.tbl ps) -> ∃ more, H' b = some (.tbl (ps ++ more)))
  (ns : ∀ m, s.heap.Ns X.env.locals m -> h'.Ns X.env.locals m) (hok : HOk X.prog X.w H' h') (hg : AllBare g') :
  Inv X pins σ H' { s with heap := h', gens := g', drawn := d', toks := t' } := by
 have neL : ∀ b o, X.s₀.heap.get? b = some o -> b ≠ X.env.locals := fun b o e => g1b (g1d (Heap.lt_size e) I.ok.above)
 have neC : ∀ b o, X.s₀.heap.get? b = some o -> b ∉ X.ex -> b ∉ ch := fun b o e hx hb => by
  rcases (hch b hb).1 with z | z
  ·exact hx z
  ·exact absurd (g1d (Heap.lt_size e) z) (g2x _)
 have cellK : ∀ x c, X.env.cells.lookup x = some c -> ∀ v, s.heap.IsCell c v -> h'.IsCell c v := fun x c e v ⟨o, ho, hd⟩ => by
  have nch : c ∉ ch := fun z => (hch c z).2.2.1 x c e rfl
  by_cases hc : c ∈ X.fs
  ·obtain ⟨sl, q⟩ := slot c o (I.cne x c e) hc nch ho (I.freeC x c e)
   exact ⟨_, q, hd⟩
  ·exact ⟨o, keep c o (I.cne x c e) hc nch ho (I.freeC x c e), hd⟩
 refine ⟨I.ok, I.os, hg, ⟨fun b o e n hb hx => ?_, fun b o e n hb hx => ?_, fun b o e n hx => ?_, fun b o e hx => ?_, fun b xs e => tups b xs (I.base.tups b xs e), fun b o xs e => frzs b o xs (I.base.frzs b o xs e), fun b ps e => ?_⟩, ?_, fun x c e => ?_, ?_, fun x c e => ?_, fun p hp => ?_, hok, I.len⟩
 ·exact keep b o (neL b o e) hb (neC b o e hx) (I.base.keep b o e n hb hx) (I.base.free b o e n hx)
 ·obtain ⟨sl, e1⟩ := I.base.slot b o e n hb hx
  obtain ⟨sl', e2⟩ := slot b _ (neL b o e) hb (neC b o e hx) e1 (I.base.free b o e n hx)
  exact ⟨sl', e2⟩
 ·obtain ⟨o', e1⟩ := I.base.there b o e hx
  exact free b o' (neC b o e hx) e1 (I.base.free b o e n hx)
 ·obtain ⟨o', e1⟩ := I.base.there b o e hx
  exact there b o' (neC b o e hx) e1
 ·obtain ⟨m1, e1⟩ := I.base.tbls b ps e
  obtain ⟨m2, e2⟩ := tbls b _ e1
  exact ⟨m1 ++ m2, by rw [e2, Array.append_assoc]⟩
 ·obtain ⟨m, hn, hl⟩ := I.loc
  refine ⟨m, ns m hn, fun i x v e1 e2 e3 => ?_⟩
  obtain ⟨u, r, l⟩ := hl i x v e1 e2 e3
  refine ⟨u, r, ?_⟩
  rcases l with l | ⟨k, c, e, z⟩
  ·exact .inl l
  ·exact .inr ⟨k, c, e, cellK x c e _ z⟩
 ·obtain ⟨v, z⟩ := I.cell x c e
  exact ⟨v, cellK x c e v z⟩
 ·obtain ⟨m, ⟨o, _, _, ho, _⟩, _⟩ := I.loc
  exact free _ o (fun z => (hch _ z).2.1 rfl) ho I.free
 ·obtain ⟨v, o, ho, hd⟩ := I.cell x c e
  exact free c o (fun z => (hch c z).2.2.1 x c e rfl) ho (I.freeC x c e)
 ·obtain ⟨e, n, ne, nf, d⟩ := I.pin p hp
  have nch : p.1 ∉ ch := fun z => (hch p.1 z).2.2.2 p hp rfl
  exact ⟨keep p.1 p.2 ne nf nch e n, free p.1 p.2 nch e n, ne, nf, d⟩
theorem Inv.un {t' : Nat} (I : Inv X pins σ H s) (u : Un X.fs [] H H' s.heap h') (hok : HOk X.prog X.w H' h') : Inv X pins σ H' { s with heap := h', toks := t' } := by
 obtain ⟨m, ⟨o, es, ep, ho, r⟩, _⟩ := id I.loc
 obtain ⟨sl, hL⟩ := u.any ho I.free (by simp)
 exact I.step (g' := s.gens) (d' := s.drawn) (ch := []) (fun _ z => nomatch z) (fun b o _ hb _ e n => u.keep b o e n hb (by simp)) (fun b o _ hb _ e n => u.slot b o e n hb (by simp)) (fun b o _ e n => u.free b o e n (by simp)) (fun b o _ e => u.there b o e (by simp)) u.tups u.frzs u.tbls (fun m' hm => by
  obtain ⟨o', es', ep', ho', r'⟩ := hm
  rw [ho] at ho'; cases ho'
  exact ⟨_, es', ep', hL, r'⟩) hok I.bare
theorem Inv.call {g' : Array GenState} {t' : Nat} {d' : Drawn} {ch : List Addr} (I : Inv X pins σ H s) (u : Un (frs X.stack) ch H H' s.heap h') (hok : HOk X.prog X.w H' h') (hg : AllBare g')
  (hch : ∀ b ∈ ch, (b ∈ X.ex \/ X.s₀.heap.objs.size <= b) /\ b ≠ X.env.locals /\ (∀ x c, X.env.cells.lookup x = some c -> c ≠ b) /\ ∀ p ∈ X.pn ++ pins, p.1 ≠ b) :
  Inv X pins σ H' { s with heap := h', gens := g', drawn := d', toks := t' } := by
 obtain ⟨m, ⟨o, es, ep, ho, r⟩, _⟩ := id I.loc
 obtain ⟨sl, hL⟩ := u.any ho I.free fun z => (hch _ z).2.1 rfl
 exact I.step (ch := ch) hch (fun b o hL hb hc e n => u.keep b o e n (fun z => (g0m.mp (I.stkSub b z)).elim hL hb) hc) (fun b o _ _ hc e n => u.any e n hc) (fun b o hc e n => u.free b o e n hc) (fun b o hc e => u.there b o e hc) u.tups u.frzs u.tbls (fun m' hm => by
  obtain ⟨o', es', ep', ho', r'⟩ := hm
  rw [ho] at ho'; cases ho'
  exact ⟨_, es', ep', hL, r'⟩) hok hg
theorem Inv.turned {t' : Nat} {it : Addr} (I : Inv X pins σ H s) (k : ∀ b o, b ≠ it -> s.heap.get? b = some o -> h'.get? b = some o) (hn : H it = none) (hL : it ≠ X.env.locals)
  (h1 : it ∈ X.ex \/ X.s₀.heap.objs.size <= it) (h2 : ∀ x c, X.env.cells.lookup x = some c -> c ≠ it) (h3 : ∀ p ∈ X.pn ++ pins, p.1 ≠ it) : Inv X pins σ H { s with heap := h', toks := t' } := by
 have nit : ∀ b u, H b = some u -> b ≠ it := fun b u e z => by rw [z, hn] at e; cases e
 refine I.step (g' := s.gens) (d' := s.drawn) (ch := [it]) (fun b hb => ?_) (fun b o _ _ hc e _ => k b o (fun z => hc (by simp [z])) e) (fun b o _ _ hc e _ => ⟨o.slots, k b o (fun z => hc (by simp [z])) e⟩) (fun _ _ _ _ n => n)
  (fun b o hc e => ⟨o, k b o (fun z => hc (by simp [z])) e⟩) (fun _ _ e => e) (fun _ _ _ e => e) (fun b ps e => ⟨#[], by rw [e]; simp⟩) (fun m hm => ?_) (fun b u e => ?_) I.bare
 ·have e : b = it := by simpa using hb
  subst e
  exact ⟨h1, hL, h2, h3⟩
 ·obtain ⟨o, es, ep, ho, r⟩ := hm
  exact ⟨o, es, ep, k _ o (Ne.symm hL) ho, r⟩
 ·refine (I.hok b u e).stay (fun c v hc q => k c v ?_ q) (fun _ q => q) fun _ _ q => q
  rcases hc with z | z
  ·rw [z]; exact nit b u e
  ·exact nit c _ z
theorem Inv.tok (I : Inv X pins σ H s) (t : Nat) : Inv X pins σ H { s with toks := t } := I.un (h' := s.heap) (t' := t) Un.refl I.hok
theorem Inv.kept {t' : Nat} (I : Inv X pins σ H s) (k : ∀ b u, s.heap.get? b = some u -> h'.get? b = some u) : Inv X pins σ H { s with heap := h', toks := t' } := I.un (Un.kept k) (I.hok.kept k)
theorem Inv.laid {a : Addr} {o : HO} {t' : Nat} (I : Inv X pins σ H s) (k : ∀ b u, s.heap.get? b = some u -> h'.get? b = some u) (hp : s.heap.objs.size <= a) (new : u5 X.prog X.w (upd H a o) h' a o) :
  Inv X pins σ (upd H a o) { s with heap := h', toks := t' } := I.un (Un.laid k hp (I.hok.fresh hp)) (I.hok.laid k hp new)
theorem Inv.write {x e : Addr} {o : HO} {t' : Nat} (I : Inv X pins σ H s) (mu : Mut (H x)) (he : e = x \/ H e = some (.own x)) (k : ∀ b u, b ≠ e -> s.heap.get? b = some u -> h'.get? b = some u) (heo : ∃ u, h'.get? e = some u)
  (new : u5 X.prog X.w (upd H x o) h' x o) : Inv X pins σ (upd H x o) { s with heap := h', toks := t' } := I.un (Un.write mu he k heo) (I.hok.write mu he k heo new)
theorem Inv.pins_of {pins' : List (Addr × Obj)} (I : Inv X pins σ H s) (h : ∀ p ∈ pins', s.heap.get? p.1 = some p.2 /\ H p.1 = none /\ p.1 ≠ X.env.locals /\ p.1 ∉ X.fs /\ ∀ v, p.2.data ≠ .cell v) : Inv X pins' σ H s :=
 ⟨I.ok, I.os, I.bare, I.base, I.loc, I.cell, I.free, I.freeC, fun p hp => (g1h.mp hp).elim (fun z => I.pin p (g2y _ z)) (h p), I.hok, I.len⟩
theorem Vk {N : List Str} (hN : N.Nodup) {i j : Nat} {x : Str} (a : N[i]? = some x) (b : N[j]? = some x) : i = j := by
 obtain ⟨h1, e1⟩ := g0y.mp a
 obtain ⟨h2, e2⟩ := g0y.mp b
 exact (List.getElem_inj hN).mp (e1.trans e2.symm)
theorem Y1 {M : Model} {A : Around} {E : Value -> Shared -> Prop} {i : Nat} {x : Str} {v : V} {u : Value} {Q : Unit -> Shared -> Prop} (I : Inv X pins σ H s) (hN : X.N.Nodup) (hi : X.N[i]? = some x) (hx : Loc X.env.scope x) (r : xK v u)
  (h : ∀ s', Inv X pins (σ.set i (some v)) H s' -> (∃ a, Heap.SameBut a s.heap s'.heap /\ (a = X.env.locals \/ X.env.cells.lookup x = some a)) -> Q () s') (hf : X.fn x = true \/ X.env.scope.names.lookup x = some .local := by first | exact .inl rfl | exact .inr rfl | assumption) : wpAny M A (storeName X.env x u) Q E s := by
 obtain ⟨m, hn, hl⟩ := id I.loc
 have hcls : (X.env.scope.kind == .class || (X.env.scope.kind == .module && X.env.locals != X.env.globals)) = false := by rw [I.ok.kind]; rfl
 have hiσ : i < σ.length := by rw [I.len]; exact (g0y.mp hi).1
 have cne := I.cne
 have tracked : ∀ {a : Addr} {h' : Heap}, (∃ o, s.heap.get? a = some o /\ H a = none) -> Heap.SameBut a s.heap h' -> HOk X.prog X.w H h' := fun {a h'} ha hs b ob e => by
  obtain ⟨_, _, hfree⟩ := ha
  refine (I.hok b ob e).stay (fun c w' hc q => (hs.2 c ?_).trans q) (fun _ q => q) fun _ _ q => q
  rintro rfl
  rcases hc with rfl | hc
  ·rw [hfree] at e; cases e
  ·rw [hfree] at hc; cases hc
 rcases hx with hk | hk
 ·refine wpAny_storeName_local hk hn (fun h' hn' hs => ?_) hcls
  obtain ⟨oL, _, _, hoL, _⟩ := id hn
  refine h _ ⟨I.ok, I.os, I.bare, ⟨fun b o e n hb hx => ?_, fun b o e n hb hx => ?_, I.base.free, fun b o e hx => ?_, I.base.tups, I.base.frzs, I.base.tbls⟩, ⟨_, hn', fun j y v' e1 e2 e3 => ?_⟩, fun y c e => ?_, I.free, I.freeC, fun p hp => ?_, tracked ⟨oL, hoL, I.free⟩ hs, by simpa using I.len⟩ ⟨_, hs, .inl rfl⟩
  ·exact (hs.2 b (g1b (g1d (Heap.lt_size e) I.ok.above))).trans (I.base.keep b o e n hb hx)
  ·obtain ⟨sl, e1⟩ := I.base.slot b o e n hb hx
   exact ⟨sl, (hs.2 b (g1b (g1d (Heap.lt_size e) I.ok.above))).trans e1⟩
  ·obtain ⟨o', e1⟩ := I.base.there b o e hx
   exact ⟨o', (hs.2 b (g1b (g1d (Heap.lt_size e) I.ok.above))).trans e1⟩
  ·by_cases hj : j = i
   ·subst hj
    rw [hi] at e1; cases e1
    rw [List.getElem?_set_self hiσ] at e2
    cases e2
    exact ⟨u, r, .inl ⟨hk, by simp⟩⟩
   ·rw [List.getElem?_set_ne (Ne.symm hj)] at e2
    obtain ⟨u', r', q⟩ := hl j y v' e1 e2 e3
    refine ⟨u', r', ?_⟩
    rcases q with ⟨k, e⟩ | ⟨k, c, e, z⟩
    ·refine .inl ⟨k, ?_⟩
     have : y ≠ x := fun e => hj (Vk hN e1 (e ▸ hi))
     simp [this, e]
    ·exact .inr ⟨k, c, e, z.sameBut hs (cne y c e)⟩
  ·obtain ⟨w', z⟩ := I.cell y c e
   exact ⟨w', z.sameBut hs (cne y c e)⟩
  ·obtain ⟨e, n, ne, nf, d⟩ := I.pin p hp
   exact ⟨(hs.2 p.1 ne).trans e, n, ne, nf, d⟩
 ·have hfn : X.fn x = true := by
   rcases hf with z | z
   ·exact z
   ·rw [z] at hk; cases hk
  obtain ⟨c, hc⟩ := I.ok.has x (.inl hk)
  obtain ⟨w', z⟩ := I.cell x c hc
  refine wpAny_storeName_cell I.ok.kind hk hc z (fun h' hc' hs => ?_)
  obtain ⟨oc, hoc, hocd⟩ := id z
  refine h { s with heap := h' } ⟨I.ok, I.os, I.bare, ⟨fun b o e n hb hx => ?_, fun b o e n hb hx => ?_, I.base.free, fun b o e hx => ?_, I.base.tups, I.base.frzs, I.base.tbls⟩, ⟨m, hn.sameBut hs (Ne.symm (cne x c hc)), fun j y v' e1 e2 e3 => ?_⟩, fun y c' e => ?_, I.free, I.freeC, fun p hp => ?_, tracked ⟨oc, hoc, I.freeC x c hc⟩ hs, by simpa using I.len⟩ ⟨c, hs, .inr hc⟩
  ·exact (hs.2 b (g1b (g1d (Heap.lt_size e) (I.ok.cab x c hfn hc)))).trans (I.base.keep b o e n hb hx)
  ·obtain ⟨sl, e1⟩ := I.base.slot b o e n hb hx
   exact ⟨sl, (hs.2 b (g1b (g1d (Heap.lt_size e) (I.ok.cab x c hfn hc)))).trans e1⟩
  ·obtain ⟨o', e1⟩ := I.base.there b o e hx
   exact ⟨o', (hs.2 b (g1b (g1d (Heap.lt_size e) (I.ok.cab x c hfn hc)))).trans e1⟩
  ·by_cases hj : j = i
   ·subst hj
    rw [hi] at e1; cases e1
    rw [List.getElem?_set_self hiσ] at e2
    cases e2
    exact ⟨u, r, .inr ⟨.inl hk, c, hc, hc'⟩⟩
   ·rw [List.getElem?_set_ne (Ne.symm hj)] at e2
    obtain ⟨u', r', q⟩ := hl j y v' e1 e2 e3
    refine ⟨u', r', ?_⟩
    rcases q with q | ⟨k, c', e, z'⟩
    ·exact .inl q
    ·refine .inr ⟨k, c', e, z'.sameBut hs ?_⟩
     rintro rfl
     exact hj (Vk hN e1 (I.ok.inj _ _ _ e hc ▸ hi))
  ·by_cases hcc : c' = c
   ·subst hcc; exact ⟨_, hc'⟩
   ·obtain ⟨w2, z2⟩ := I.cell y c' e
    exact ⟨w2, z2.sameBut hs hcc⟩
  ·obtain ⟨e, n, ne, nf, d⟩ := I.pin p hp
   refine ⟨(hs.2 p.1 ?_).trans e, n, ne, nf, d⟩
   intro q
   rw [q, hoc] at e
   have q' : oc = p.2 := g2s.inj e
   exact d w' (by rw [<- q']; exact hocd)
theorem WX {M : Model} {A : Around} {E : Value -> Shared -> Prop} {i : Nat} {x : Str} {v : V} {u : Value} {Q : Unit -> Shared -> Prop} (I : Inv X pins σ H s) (hN : X.N.Nodup) (hi : X.N[i]? = some x) (hx : Loc X.env.scope x) (r : xK v u)
  (h : ∀ s', Inv X pins (σ.set i (some v)) H s' -> Q () s') (hf : X.fn x = true \/ X.env.scope.names.lookup x = some .local := by first | exact .inl rfl | exact .inr rfl | assumption) : wpAny M A (storeName X.env x u) Q E s :=
 Y1 I hN hi hx r (fun s' I' _ => h s' I') hf
theorem Inv.call' {s' : Shared} {ch : List Addr} (I : Inv X pins σ H s) (ho : s'.os = s.os) (u : Un (frs X.stack) ch H H' s.heap s'.heap) (hok : HOk X.prog X.w H' s'.heap) (hg : AllBare s'.gens)
  (hch : ∀ b ∈ ch, (b ∈ X.ex \/ X.s₀.heap.objs.size <= b) /\ b ≠ X.env.locals /\ (∀ x c, X.env.cells.lookup x = some c -> c ≠ b) /\ ∀ p ∈ X.pn ++ pins, p.1 ≠ b) : Inv X pins σ H' s' := by
 obtain ⟨h', g', d', t', o'⟩ := s'
 have e : o' = s.os := ho
 subst e
 exact I.call (g' := g') (t' := t') (d' := d') u hok hg hch
end
abbrev XK := Value -> Option Addr -> Hp -> Prop
abbrev St := List (Option V)
abbrev VK := V -> Hp -> Prop
abbrev TE := St -> Hp -> VK -> Prop
abbrev TT := St -> Hp -> (Bool -> Hp -> Prop) -> Prop
abbrev TA := St -> Hp -> (List V -> Hp -> Prop) -> Prop
structure Ends where
 nx : St -> Hp -> Prop
 rt : VK
 bk : St -> Hp -> Prop := fun _ _ => False
 ct : St -> Hp -> Prop := fun _ _ => False
abbrev TS := Ends -> St -> Hp -> Prop
def EP (X : Cx) (pins : List (Addr × Obj)) (σ : St) (Q : VK) (u : Value) (s' : Shared) : Prop := ∃ v H', Inv X pins σ H' s' /\ xK v u /\ Q v H'
def TP (X : Cx) (pins : List (Addr × Obj)) (σ : St) (Q : Bool -> Hp -> Prop) (b : Bool) (s' : Shared) : Prop := ∃ H', Inv X pins σ H' s' /\ Q b H'
def AP (X : Cx) (pins : List (Addr × Obj)) (σ : St) (Q : List V -> Hp -> Prop) (us : List Value) (s' : Shared) : Prop := ∃ vs H', Inv X pins σ H' s' /\ xk vs us /\ Q vs H'
def SP (X : Cx) (pins : List (Addr × Obj)) (D : Ends) (f : Flow) (s' : Shared) : Prop :=
 match f with
 | .next => ∃ σ' H', Inv X pins σ' H' s' /\ D.nx σ' H'
 | .brk => ∃ σ' H', Inv X pins σ' H' s' /\ D.bk σ' H'
 | .cont => ∃ σ' H', Inv X pins σ' H' s' /\ D.ct σ' H'
 | .ret u => ∃ v σ' H', Inv X pins σ' H' s' /\ xK v u /\ D.rt v H'
def PE (X : Cx) (e : Expr) (t : TE) : Prop :=
 ∀ (pins : List (Addr × Obj)) (s : Shared) (σ : St) (H : Hp) (Q : VK), Inv X pins σ H s -> t σ H Q -> wpAny (model X.prog X.w) X.A (eval e X.env) (EP X pins σ Q) X.xe s
def PT (X : Cx) (e : Expr) (t : TT) : Prop :=
 ∀ (pins : List (Addr × Obj)) (s : Shared) (σ : St) (H : Hp) (Q : Bool -> Hp -> Prop), Inv X pins σ H s -> t σ H Q -> wpAny (model X.prog X.w) X.A (isTrue e X.env (eval e X.env)) (TP X pins σ Q) X.xe s
def PW (X : Cx) (e : Expr) (t : TT) : Prop :=
 ∀ (whole : Sem Value) (pins : List (Addr × Obj)) (s : Shared) (σ : St) (H : Hp) (Q : Bool -> Hp -> Prop), Inv X pins σ H s -> t σ H Q -> wpAny (model X.prog X.w) X.A (isTrue e X.env whole) (TP X pins σ Q) X.xe s
theorem PW.pt {X : Cx} {e : Expr} {t : TT} (h : PW X e t) : PT X e t := h _
def PA (X : Cx) (es : List Expr) (t : TA) : Prop :=
 ∀ (pos : Pos) (pins : List (Addr × Obj)) (s : Shared) (σ : St) (H : Hp) (Q : List V -> Hp -> Prop), Inv X pins σ H s -> t σ H Q -> wpAny (model X.prog X.w) X.A (spliced (backTo pos (starEach es X.env))) (AP X pins σ Q) X.xe s
def PS (X : Cx) (st : Stmt) (t : TS) : Prop :=
 ∀ (pins : List (Addr × Obj)) (s : Shared) (σ : St) (H : Hp) (D : Ends), Inv X pins σ H s -> t D σ H -> wpAny (model X.prog X.w) X.A (exec st X.env) (SP X pins D) X.xe s
def PSs (X : Cx) (st : List Stmt) (t : TS) : Prop :=
 ∀ (pins : List (Addr × Obj)) (s : Shared) (σ : St) (H : Hp) (D : Ends), Inv X pins σ H s -> t D σ H -> wpAny (model X.prog X.w) X.A (execs st X.env) (SP X pins D) X.xe s
theorem thn {α : Type} {t : Sem α} {Q Q' : α -> Shared -> Prop} {M : Model} {A : Around} {E : Value -> Shared -> Prop} {s : Shared} (h : wpAny M A t Q E s) (hQ : ∀ a s, Q a s -> Q' a s) : wpAny M A t Q' E s := wpAny_mono h hQ fun _ _ x => x
section
variable {X : Cx}
theorem bin {a b : Expr} {ta tb : TE} (ha : PE X a ta) (hb : PE X b tb) {pins : List (Addr × Obj)} {s : Shared} {σ : St} {H : Hp} {R : V -> V -> Hp -> Prop} (I : Inv X pins σ H s) (h : ta σ H fun x H1 => tb σ H1 fun y H2 => R x y H2)
  {α : Type} {Q : α -> Shared -> Prop} {f : Value -> Value -> Sem α}
  (hf : ∀ v u s2 x y H2, Inv X pins σ H2 s2 -> xK x v -> xK y u -> R x y H2 -> wpAny (model X.prog X.w) X.A (f v u) Q X.xe s2) :
  wpAny (model X.prog X.w) X.A (eval a X.env) (fun v s₁ => wpAny (model X.prog X.w) X.A (eval b X.env) (fun u s₂ => wpAny (model X.prog X.w) X.A (f v u) Q X.xe s₂) X.xe s₁) X.xe s := by
 refine thn (ha pins s σ H _ I h) fun v s1 ⟨x, H1, I1, r1, q1⟩ => ?_
 refine thn (hb pins s1 σ H1 _ I1 q1) fun u s2 ⟨y, H2, I2, r2, q2⟩ => ?_
 exact hf v u s2 x y H2 I2 r1 r2 q2
def FH (i : Nat) : TE := fun σ H Q => ∃ v, σ[i]? = some (some v) /\ Q v H
def tC (v : V) : TE := fun _ H Q => Q v H
theorem Ve {i : Nat} {x : Str} {pos : Pos} (hN : X.N[i]? = some x) (hv : Vis X.env.scope x) (hd : (x == ("__debug__" : Str)) = false := by decide) (hcd : (x == ("__classdict__" : Str)) = false := by decide) : PE X (.Name x pos) (FH i) := by
 intro pins s σ H Q I h
 obtain ⟨v, e, h⟩ := h
 obtain ⟨m, hn, hl⟩ := I.loc
 obtain ⟨u, r, l⟩ := hl i x v hN e hv
 have fin : EP X pins σ Q u s := ⟨v, H, I, r, h⟩
 rcases l with ⟨hk, hm⟩ | ⟨hk, c, hc, hcell⟩
 ·exact wpAny_Name (wpAny_loadName_local I.ok.kind hk hn hm fin) hd
 ·rcases hk with hk | hk
  ·exact wpAny_Name (wpAny_loadName_cell I.ok.kind hk hc hcell fin) hd
  ·exact wpAny_Name (wpAny_loadName_free I.ok.kind hk hc hcell fin hcd) hd
theorem Gr {i j pos} : PE X (.Constant (.int i) j pos) (tC (.int i)) := fun _ _ _ H _ I h => wpAny_Constant_int ⟨.int i, H, I.tok _, ⟨_, rfl⟩, h⟩
theorem D9 {b j pos} : PE X (.Constant (.bool b) j pos) (tC (.bl b)) := fun _ _ _ H _ I h => Constant_bool ⟨.bl b, H, I, rfl, h⟩
theorem Ct {j pos} : PE X (.Constant .none j pos) (tC .non) := fun _ _ _ H _ I h => Constant_none ⟨.non, H, I, rfl, h⟩
theorem Co {x j pos} : PE X (.Constant (.str x) j pos) (tC (.str x)) := fun _ _ _ H _ I h => Calls.Constant_str ⟨.str x, H, I.tok _, ⟨_, rfl⟩, h⟩
def Gl (X : Cx) (x : Str) : Prop := X.env.kindOf x = some .globalImplicit
theorem Wv {E : Value -> Shared -> Prop} {pins : List (Addr × Obj)} {s : Shared} {σ : St} {H : Hp} {x : Str} {u : Value} {pos : Pos} {Q : Value -> Shared -> Prop} (I : Inv X pins σ H s) (hg : Gl X x) (hm : X.mg x = some u) (h : Q u s)
  (hd : (x == ("__debug__" : Str)) = false := by decide) : wpAny (model X.prog X.w) X.A (eval (.Name x pos) X.env) Q E s :=
 Calls.Name_function_global I.ok.kind hg (Calls.loadGlobal_global (by rw [I.ok.glob]; exact I.mod.glob.keeps I.bk) hm h) hd
theorem vV {E : Value -> Shared -> Prop} {pins : List (Addr × Obj)} {s : Shared} {σ : St} {H : Hp} {x : Str} {u : Value} {pos : Pos} {Q : Value -> Shared -> Prop} (I : Inv X pins σ H s) (hg : Gl X x) (hm : X.mg x = none) (hv : bootBuiltins x = some u) (h : Q u s)
  (hn : x ≠ "__name__" := by decide) (hd : (x == ("__debug__" : Str)) = false := by decide) : wpAny (model X.prog X.w) X.A (eval (.Name x pos) X.env) Q E s := by
 obtain ⟨mb, h1, h2⟩ := I.mod.blt
 exact Calls.Name_function_global I.ok.kind hg (Calls.loadGlobal_builtin (by rw [I.ok.glob]; exact I.mod.glob.keeps I.bk) hm (by rw [I.ok.blt]; exact h1.keeps I.bk) ((h2 x hn).trans hv) h) hd
theorem Wi {x : Str} {v : V} {u : Value} {pos : Pos} (hg : Gl X x) (hm : X.mg x = some u) (r : xK v u) (hd : (x == ("__debug__" : Str)) = false := by decide) : PE X (.Name x pos) (tC v) :=
 fun _ _ _ H _ I h => Wv I hg hm ⟨v, H, I, r, h⟩ hd
theorem Hj {x : Str} {v : V} {u : Value} {pos : Pos} (hg : Gl X x) (hm : X.mg x = none) (hv : bootBuiltins x = some u) (r : xK v u) (hn : x ≠ "__name__" := by decide) (hd : (x == ("__debug__" : Str)) = false := by decide) : PE X (.Name x pos) (tC v) :=
 fun _ _ _ H _ I h => vV I hg hm hv ⟨v, H, I, r, h⟩ hn hd
variable {a b : Expr} {ta tb : TE} {pos : Pos}
def PC (X : Cx) (op : CmpOp) (a b : Expr) (t : TE) : Prop :=
 ∀ (pins : List (Addr × Obj)) (s : Shared) (σ : St) (H : Hp) (Q : VK), Inv X pins σ H s -> t σ H Q →
  wpAny (model X.prog X.w) X.A (eval a X.env) (fun v s₁ => wpAny (model X.prog X.w) X.A (eval b X.env) (fun u s₂ => wpAny (model X.prog X.w) X.A (compareOp op v u) (EP X pins σ Q) X.xe s₂) X.xe s₁) X.xe s
theorem Kn (b : Expr) {op : CmpOp} (h : op ≠ .In) (h2 : op ≠ .NotIn) : behindInMarks op b = false := by
 have e1 : (op == CmpOp.In) = false := by cases op <;> first | rfl | exact absurd rfl h
 have e2 : (op == CmpOp.NotIn) = false := by cases op <;> first | rfl | exact absurd rfl h2
 cases b <;> simp [behindInMarks, e1, e2]
def tB (t : TE) : TT := fun σ H Q => t σ H fun x H1 => ∃ c, x = .bl c /\ Q c H1
theorem Mg {op : CmpOp} {t : TE} (h : PC X op a b t) (h1 : behindInMarks op b = false := by first | exact Kn _ (by decide) (by decide) | rfl) : PT X (.Compare a [op] [b] pos) (tB t) := by
 intro pins s σ H Q I hw
 refine wpAny_isTrue_Compare1 (thn (h pins s σ H _ I hw) fun v s1 h1 => thn h1 fun u s2 h2 => thn h2 fun c s3 ⟨x, H1, I1, r1, q1⟩ => ?_) h1
 obtain ⟨d, rfl, q⟩ := q1
 cases r1
 exact wpAny_truthy_bool ⟨H1, I1, q⟩
theorem Gg {e : Expr} {t : TE} (h : PE X e t) (he : ∀ whole, isTrue e X.env whole = (do let v ← whole; standAt e.pos; holding [v] (truthy v)) := by intro _; rfl) : PT X e (tB t) := by
 intro pins s σ H Q I hw
 refine isTrue_plain (thn (h pins s σ H _ I hw) fun v s1 ⟨x, H1, I1, r1, q1⟩ => ?_) (he _)
 obtain ⟨d, rfl, q⟩ := q1
 cases r1
 exact wpAny_truthy_bool ⟨H1, I1, q⟩
variable {tA tB' : TT} {rest : List Expr}
def MA (t u : TT) : TT := fun σ H Q => t σ H fun c H1 => if c = true then u σ H1 Q else Q false H1
def tOr (t u : TT) : TT := fun σ H Q => t σ H fun c H1 => if c = true then Q true H1 else u σ H1 Q
def Mt (t : TT) : TT := fun σ H Q => t σ H fun c H1 => Q (!c) H1
theorem Ha (ha : PT X a tA) : PW X (.BoolOp .And [a] pos) tA := by
 intro wh pins s σ H Q I h
 refine isTrue_and (thn (ha pins s σ H Q I h) fun c s1 e => ?_)
 cases c with
 | true => exact isTrue_and_nil e
 | false => exact e
theorem Ck (ha : PT X a tA) : PW X (.BoolOp .Or [a] pos) tA := by
 intro wh pins s σ H Q I h
 refine isTrue_or (thn (ha pins s σ H Q I h) fun c s1 e => ?_)
 cases c with
 | false => exact isTrue_or_nil e
 | true => exact e
theorem Cm (ha : PT X a tA) (hb : PW X (.BoolOp .And (b :: rest) pos) tB') : PW X (.BoolOp .And (a :: b :: rest) pos) (MA tA tB') := by
 intro wh pins s σ H Q I h
 refine isTrue_and (thn (ha pins s σ H _ I h) fun c s1 ⟨H1, I1, q1⟩ => ?_)
 cases c with
 | true => exact hb wh pins s1 σ H1 Q I1 q1
 | false => exact ⟨H1, I1, q1⟩
theorem D6 (ha : PT X a tA) (hb : PW X (.BoolOp .Or (b :: rest) pos) tB') : PW X (.BoolOp .Or (a :: b :: rest) pos) (tOr tA tB') := by
 intro wh pins s σ H Q I h
 refine isTrue_or (thn (ha pins s σ H _ I h) fun c s1 ⟨H1, I1, q1⟩ => ?_)
 cases c with
 | true => exact ⟨H1, I1, q1⟩
 | false => exact hb wh pins s1 σ H1 Q I1 q1
theorem Gh (ha : PT X a tA) : PT X (.UnaryOp .Not a pos) (Mt tA) := by
 intro pins s σ H Q I h
 exact isTrue_not (ha pins s σ H (fun c H1 => Q (!c) H1) I h)
def DM (ta tb : TE) : TE := fun σ H Q => ta σ H fun x H1 => ∃ c, x = .bl c /\ if c = true then tb σ H1 Q else Q (.bl false) H1
def DC (ta : TE) : TE := fun σ H Q => ta σ H fun x H1 => ∃ c, x = .bl c /\ Q (.bl (!c)) H1
theorem Cr {op} {t : TE} (h : PE X a t) : PE X (.BoolOp op [a] pos) t := fun pins s σ H Q I hw => BoolOp_one (h pins s σ H Q I hw)
theorem Cv (ha : PE X a ta) (hb : PE X (.BoolOp .And (b :: rest) pos) tb) : PE X (.BoolOp .And (a :: b :: rest) pos) (DM ta tb) := by
 intro pins s σ H Q I h
 refine BoolOp_and (thn (ha pins s σ H _ I h) fun v s1 ⟨x, H1, I1, r1, q1⟩ => ?_)
 obtain ⟨c, rfl, q1⟩ := q1
 cases r1
 refine wpAny_truthy_bool ?_
 cases c with
 | true => exact hb pins s1 σ H1 Q I1 q1
 | false => exact ⟨.bl false, H1, I1, rfl, q1⟩
theorem Cs (ha : PE X a ta) : PE X (.UnaryOp .Not a pos) (DC ta) := by
 intro pins s σ H Q I h
 refine UnaryOp_ (thn (ha pins s σ H _ I h) fun v s1 ⟨x, H1, I1, r1, q1⟩ => ?_)
 obtain ⟨c, rfl, q1⟩ := q1
 cases r1
 exact not_of (wpAny_truthy_bool ⟨.bl (!c), H1, I1, rfl, q1⟩)
def tIf (t : TT) (ta tb : TE) : TE := fun σ H Q => t σ H fun c H1 => if c = true then ta σ H1 Q else tb σ H1 Q
theorem Kb {c : Expr} (hc : PT X c tA) (ha : PE X a ta) (hb : PE X b tb) : PE X (.IfExp c a b pos) (tIf tA ta tb) := by
 intro pins s σ H Q I h
 refine wpAny_IfExp (thn (hc pins s σ H _ I h) fun d s1 ⟨H1, I1, q1⟩ => ?_)
 cases d with
 | true => exact ha pins s1 σ H1 Q I1 q1
 | false => exact hb pins s1 σ H1 Q I1 q1
end
def SqL (K : W.Frag) (H : Hp) (a : Addr) (xs : List V) : Prop :=
 Rd H a (.lst xs) ∨
  ∃ (o : Obj) (its : Array Value) (n : Nat), K.lookup a = some o /\ o.cls = .type "list" /\ o.dict = none /\ o.data = .seq its n /\ its.size <= sizeLine /\ xk xs its.toList
def SqT (K : W.Frag) (H : Hp) (a : Addr) (xs : List V) : Prop :=
 Rd H a (.tup xs) ∨
  ∃ (o : Obj) (its : Array Value) (n : Nat), K.lookup a = some o /\ o.cls = .type "tuple" /\ o.data = .seq its n /\ its.size <= sizeLine /\ xk xs its.toList
def MT : Value -> Option V
 | .none => some .non
 | .bool b => some (.bl b)
 | .int i _ => some (.int i)
 | .str x _ => some (.str x)
 | .bytes b _ => some (.byt b)
 | .float b _ => some (.flt b)
 | .ref a => some (.ref a)
 | .type n => some (.ty n)
 | _ => none
theorem xK.abs {x : V} {u : Value} (r : xK x u) : MT u = some x := by
 cases x with
 | non => cases r; rfl
 | bl _ => cases r; rfl
 | int _ => obtain ⟨t, rfl⟩ := r; rfl
 | str _ => obtain ⟨t, rfl⟩ := r; rfl
 | byt _ => obtain ⟨t, rfl⟩ := r; rfl
 | flt _ => obtain ⟨t, rfl⟩ := r; rfl
 | ref _ => cases r; rfl
 | ty _ => cases r; rfl
theorem xK.inj {x y : V} {u : Value} (r : xK x u) (q : xK y u) : x = y := g2s.inj (r.abs.symm.trans q.abs)
theorem xk.inj : ∀ {xs ys : List V} {us : List Value}, xk xs us -> xk ys us -> xs = ys
 | _, _, _, .nil, .nil => rfl
 | _, _, _, .cons r t, .cons r' t' => by rw [r.inj r', xk.inj t t']
section
variable {X : Cx} {pins : List (Addr × Obj)} {σ : St} {H : Hp} {s : Shared} {a : Addr} {xs ys : List V}
theorem SqL.of {K : W.Frag} (h : H a = some (.lst xs)) : SqL K H a xs := .inl (.inl h)
theorem SqT.of {K : W.Frag} (h : H a = some (.tup xs)) : SqT K H a xs := .inl (.inl h)
theorem Inv.list (I : Inv X pins σ H s) (h : SqL X.K H a xs) : ∃ its : List Value, xk xs its /\ PlainL s.heap a its.toArray /\ xs.length <= sizeLine := by
 rcases h with h | ⟨o, its, n, hk, hc, hd, hs, hz, r⟩
 ·obtain ⟨z, its, n, r, e⟩ := h.ok I.hok
  exact ⟨its, r, ⟨_, n, e, rfl, rfl, rfl⟩, z⟩
 ·refine ⟨its.toList, r, ⟨o, n, I.kIn a o hk, hc, hd, by simpa using hs⟩, ?_⟩
  have e := r.length
  simp only [Array.length_toList] at e
  omega
theorem Inv.tuple (I : Inv X pins σ H s) (h : SqT X.K H a xs) : ∃ its : List Value, xk xs its /\ IsTup s.heap a its.toArray /\ xs.length <= sizeLine := by
 rcases h with h | ⟨o, its, n, hk, hc, hs, hz, r⟩
 ·obtain ⟨z, its, r, p⟩ := h.ok I.hok
  exact ⟨its, r, p, z⟩
 ·refine ⟨its.toList, r, ⟨o, I.kIn a o hk, hc, n, by simpa using hs⟩, ?_⟩
  have e := r.length
  simp only [Array.length_toList] at e
  omega
theorem Inv.list_inj (I : Inv X pins σ H s) (h : SqL X.K H a xs) (h' : SqL X.K H a ys) : xs = ys := by
 obtain ⟨its, r, ⟨o, n, e, _, _, d⟩, _⟩ := I.list h
 obtain ⟨its', r', ⟨o', n', e', _, _, d'⟩, _⟩ := I.list h'
 rw [e] at e'; cases e'
 rw [d] at d'
 injection d' with d1 _
 have : its = its' := by simpa using congrArg Array.toList d1
 subst this
 exact r.inj r'
theorem Inv.tuple_inj (I : Inv X pins σ H s) (h : SqT X.K H a xs) (h' : SqT X.K H a ys) : xs = ys := by
 obtain ⟨its, r, ⟨o, e, _, n, d⟩, _⟩ := I.tuple h
 obtain ⟨its', r', ⟨o', e', _, n', d'⟩, _⟩ := I.tuple h'
 rw [e] at e'; cases e'
 rw [d] at d'
 injection d' with d1 _
 have : its = its' := by simpa using congrArg Array.toList d1
 subst this
 exact r.inj r'
end
abbrev Cx.wish (X : Cx) (E : Value -> Shared -> Prop) : Cx := { X with xe := E }
abbrev Cx.nox (X : Cx) : Cx := X.wish fun _ _ => False
theorem Cx.Ok.wish {X : Cx} (ok : X.Ok) (E : Value -> Shared -> Prop) : (X.wish E).Ok :=
 ⟨ok.mod, ok.kind, ok.glob, ok.blt, ok.above, ok.inj, ok.has, ok.cab, ok.hd, ok.frames, ok.stk, ok.exf, ok.bs, ok.bsz, ok.noex, ok.exfs, ok.funs, ok.frf⟩
theorem Cx.Ok.unwish {X : Cx} {E : Value -> Shared -> Prop} (ok : (X.wish E).Ok) : X.Ok :=
 ⟨ok.mod, ok.kind, ok.glob, ok.blt, ok.above, ok.inj, ok.has, ok.cab, ok.hd, ok.frames, ok.stk, ok.exf, ok.bs, ok.bsz, ok.noex, ok.exfs, ok.funs, ok.frf⟩
section
variable {X : Cx} {pins : List (Addr × Obj)} {σ : St} {H : Hp} {s : Shared} {E : Value -> Shared -> Prop}
theorem Inv.wish (I : Inv X pins σ H s) (E : Value -> Shared -> Prop) : Inv (X.wish E) pins σ H s := ⟨I.ok.wish E, I.os, I.bare, I.base, I.loc, I.cell, I.free, I.freeC, I.pin, I.hok, I.len⟩
theorem Inv.unwish (I : Inv (X.wish E) pins σ H s) : Inv X pins σ H s := ⟨I.ok.unwish, I.os, I.bare, I.base, I.loc, I.cell, I.free, I.freeC, I.pin, I.hok, I.len⟩
theorem SP.unwish {D : Ends} {f : Flow} {s' : Shared} (h : SP (X.wish E) pins D f s') : SP X pins D f s' := by
 cases f with
 | next => obtain ⟨σ', H', I, q⟩ := h; exact ⟨σ', H', I.unwish, q⟩
 | brk => obtain ⟨σ', H', I, q⟩ := h; exact ⟨σ', H', I.unwish, q⟩
 | cont => obtain ⟨σ', H', I, q⟩ := h; exact ⟨σ', H', I.unwish, q⟩
 | ret u => obtain ⟨v, σ', H', I, r, q⟩ := h; exact ⟨v, σ', H', I.unwish, r, q⟩
theorem PSs.nox {st : List Stmt} {t : TS} (h : PSs X.nox st t) : PSs X st t := fun pins s σ H D I hw =>
 wpAny_mono (h pins s σ H D (I.wish _) hw) (fun _ _ q => q.unwish) fun _ _ z => False.elim z
end
section
variable {X : Cx} {st : Stmt} {rest : List Stmt} {t u : TS} {e : Expr} {te : TE} {pos : Pos}
def DD : TS := fun D σ H => D.nx σ H
def Mr (t u : TS) : TS := fun D σ H => t { D with nx := u D } σ H
theorem Wf : PSs X [] DD := fun _ _ σ H _ I h => wpAny_execs_nil ⟨σ, H, I, h⟩
theorem xo (h1 : PS X st t) (h2 : PSs X rest u) : PSs X (st :: rest) (Mr t u) := by
 intro pins s σ H D I h
 refine wpAny_execs_cons (thn (h1 pins s σ H { D with nx := u D } I h) fun f s1 q => ?_)
 cases f with
 | next =>
  obtain ⟨σ', H', I', q⟩ := q
  exact h2 pins s1 σ' H' D I' q
 | ret v => exact q
 | brk => exact q
 | cont => exact q
theorem vb (h1 : PS X st t) : PSs X [st] t := by
 intro pins s σ H D I h
 refine wpAny_execs_cons (thn (h1 pins s σ H D I h) fun f s1 q => ?_)
 cases f with
 | next => exact wpAny_execs_nil q
 | ret v => exact q
 | brk => exact q
 | cont => exact q
theorem Inv.quiet {pins : List (Addr × Obj)} {σ : St} {H : Hp} {s : Shared} (I : Inv X pins σ H s) : interactive X.env = false := by simp [interactive, I.ok.kind]
def DH (te : TE) : TS := fun D σ H => te σ H fun _ H1 => D.nx σ H1
theorem uE (he : PE X e te) (hs : swapsWith e none pos.line X.env = pure false := by rfl) : PS X (.Expr e pos) (DH te) := by
 intro pins s σ H D I h
 exact wpAny_Expr_any (thn (he pins s σ H _ I h) fun v s1 ⟨x, H1, I1, r1, q1⟩ => ⟨σ, H1, I1, q1⟩) I.quiet hs
def Ms (te : TE) : TS := fun D σ H => te σ H D.rt
theorem Gi (he : PE X e te) : PS X (.Return (some e) pos) (Ms te) := by
 intro pins s σ H D I h
 exact wpAny_Return_some (thn (he pins s σ H _ I h) fun v s1 ⟨x, H1, I1, r1, q1⟩ => ⟨x, σ, H1, I1, r1, q1⟩)
def Dz : TS := fun D _ H => D.rt .non H
theorem Hb : PS X (.Return none pos) Dz := fun _ _ σ H _ I h => wpAny_Return_none ⟨.non, σ, H, I, rfl, h⟩
def Mw (c : TT) (t u : TS) : TS := fun D σ H => c σ H fun b H1 => if b = true then t D σ H1 else u D σ H1
theorem Hc {c : Expr} {a b : List Stmt} {tc : TT} (hc : PT X c tc) (ha : PSs X a t) (hb : PSs X b u) : PS X (.If c a b pos) (Mw tc t u) := by
 intro pins s σ H D I h
 refine wpAny_If (thn (hc pins s σ H _ I h) fun d s1 ⟨H1, I1, q1⟩ => ?_)
 cases d with
 | true => exact ha pins s1 σ H1 D I1 q1
 | false => exact hb pins s1 σ H1 D I1 q1
end
abbrev TG := V -> St -> Hp -> (St -> Hp -> Prop) -> Prop
abbrev TGs := List V -> St -> Hp -> (St -> Hp -> Prop) -> Prop
def PG (X : Cx) (target : Expr) (t : TG) : Prop :=
 ∀ (pins : List (Addr × Obj)) (s : Shared) (σ : St) (H : Hp) (v : V) (u : Value) (Q : St -> Hp -> Prop), Inv X pins σ H s -> xK v u -> t v σ H Q →
  wpAny (model X.prog X.w) X.A (assign target X.env u) (fun _ s' => ∃ σ' H', Inv X pins σ' H' s' /\ Q σ' H') X.xe s
def PGs (X : Cx) (ts : List Expr) (t : TGs) : Prop :=
 ∀ (pins : List (Addr × Obj)) (s : Shared) (σ : St) (H : Hp) (vs : List V) (us : List Value) (Q : St -> Hp -> Prop), Inv X pins σ H s -> xk vs us -> t vs σ H Q →
  wpAny (model X.prog X.w) X.A (assignInOrder ((assignEach ts X.env).map (·.2)) us) (fun _ s' => ∃ σ' H', Inv X pins σ' H' s' /\ Q σ' H') X.xe s
section
variable {X : Cx} {pos : Pos}
def CZ (i : Nat) : TG := fun v σ H Q => Q (σ.set i (some v)) H
theorem ko {i : Nat} {x : Str} (hN : X.N.Nodup) (hi : X.N[i]? = some x) (hx : Loc X.env.scope x) (hf : X.fn x = true \/ X.env.scope.names.lookup x = some .local := by first | exact .inl rfl | exact .inr rfl | assumption) : PG X (.Name x pos) (CZ i) := by
 intro pins s σ H v u Q I r h
 exact wpAny_assign_Name (WX I hN hi hx r (fun s' I' => ⟨_, H, I', h⟩) hf)
def MO : TGs := fun vs σ H Q => vs = [] /\ Q σ H
def Fo (t : TG) (u : TGs) : TGs := fun vs σ H Q => ∃ v r, vs = v :: r /\ t v σ H fun σ' H' => u r σ' H' Q
theorem Qi : PGs X [] MO := by
 intro pins s σ H vs us Q I r h
 obtain ⟨e, h⟩ := h
 subst e
 cases r
 exact assignInOrder_nil ⟨σ, H, I, h⟩
theorem Ye {e : Expr} {es : List Expr} {t : TG} {u : TGs} (h1 : PG X e t) (h2 : PGs X es u)
  (hs : (assignEach (e :: es) X.env).map (·.2) = assign e X.env :: (assignEach es X.env).map (·.2) := by rfl) : PGs X (e :: es) (Fo t u) := by
 intro pins s σ H vs us Q I r h
 obtain ⟨v, vr, e1, h⟩ := h
 subst e1
 cases r with
 | cons r rr =>
  rw [hs]
  refine assignInOrder_cons (thn (h1 pins s σ H _ _ _ I r h) fun _ s1 ⟨σ1, H1, I1, q1⟩ => ?_)
  exact h2 pins s1 σ1 H1 _ _ Q I1 rr q1
def MN (K : W.Frag) (n : Nat) (t : TGs) : TG := fun v σ H Q => ∃ a xs, v = .ref a /\ SqT K H a xs /\ xs.length = n /\ t xs σ H Q
theorem Gn {es : List Expr} {k : Nat} {t : TGs} {n : Nat} (hc : X.calm = true) (h : PGs X es t)
  (hn : (assignEach es X.env).length = n := by rfl) (hst : (assignEach es X.env).findIdx? (·.1) = none := by rfl) : PG X (.Tuple es k pos) (MN X.K n t) := by
 intro pins s σ H v u Q I r hw
 obtain ⟨a, xs, e1, hq, hl, hw⟩ := hw
 subst e1
 cases r
 obtain ⟨its, rv, ht, hz⟩ := I.tuple hq
 refine assign_Tuple_tuple (I.ok.hd hc) ht (by simp [hn, <- hl, rv.length]) hst fun h' hx => ?_
 have I1 : Inv X pins σ H { s with heap := h' } := I.kept (t' := s.toks) fun b o e => hx b o (g1b (Heap.lt_size e)) e
 exact h pins _ σ H xs _ Q I1 (by simpa using rv) hw
def Mz (te : TE) (g : TG) : TS := fun D σ H => te σ H fun x H1 => g x σ H1 D.nx
theorem ZD {i : Nat} {x : Str} {e : Expr} {te : TE} {pos' : Pos} (hN : X.N.Nodup) (hi : X.N[i]? = some x) (hx : Loc X.env.scope x) (he : PE X e te) (hs : swapsWith e (some (.Name x pos')) pos.line X.env = pure false := by rfl) (hf : X.fn x = true \/ X.env.scope.names.lookup x = some .local := by first | exact .inl rfl | exact .inr rfl | assumption) :
  PS X (.Assign [.Name x pos'] e pos) (Mz te (CZ i)) := by
 intro pins s σ H D I h
 refine wpAny_Assign_Name (thn (he pins s σ H _ I h) fun v s1 ⟨y, H1, I1, r1, q1⟩ => ?_) hs
 exact WX I1 hN hi hx r1 (fun s2 I2 => ⟨_, H1, I2, q1⟩) hf
end
section
variable {X : Cx} {pos : Pos}
def BL (c : TT) (tb : TS) : TS := fun D σ H => ∃ W : Nat -> St -> Hp -> Prop, (∃ m, W m σ H) /\ ∀ m σ H, W m σ H →
 c σ H fun b H1 => if b = true then ∃ N : St -> Hp -> Prop, (∀ σ' H', N σ' H' -> ∃ m', m' < m /\ W m' σ' H') /\ tb { D with nx := N, ct := N, bk := D.nx } σ H1 else D.nx σ H1
theorem J7 {c : Expr} {body : List Stmt} {tc : TT} {tb : TS} (hp : PassesOwn (model X.prog X.w) X.A X.env X.xe) (hc : PT X c tc) (hb : PSs X body tb) : PS X (.While c body [] pos) (BL tc tb) := by
 intro pins s σ H D I h
 obtain ⟨W, ⟨m0, w0⟩, turn⟩ := h
 refine wpAny_While (codeAny_whileLoop (fun n s' => ∃ σ' H', Inv X pins σ' H' s' /\ W n σ' H') ?_ m0 ⟨σ, H, I, w0⟩)
 rintro n s1 ⟨σ1, H1, I1, w1⟩
 refine wpAny_passesOwn hp (thn (hc pins s1 σ1 H1 _ I1 (turn n σ1 H1 w1)) fun b s2 ⟨H2, I2, q2⟩ => ?_)
 cases b with
 | true =>
  obtain ⟨N, hN, q2⟩ := q2
  rw [if_pos rfl]
  refine wpAny_passesOwn hp (thn (hb pins s2 σ1 H2 _ I2 q2) fun f s3 q3 => ?_)
  cases f with
  | next =>
   obtain ⟨σ3, H3, I3, n3⟩ := q3
   obtain ⟨m', hm, w3⟩ := hN σ3 H3 n3
   exact ⟨m', hm, σ3, H3, I3, w3⟩
  | cont =>
   obtain ⟨σ3, H3, I3, n3⟩ := q3
   obtain ⟨m', hm, w3⟩ := hN σ3 H3 n3
   exact ⟨m', hm, σ3, H3, I3, w3⟩
  | brk => exact q3
  | ret v => exact q3
 | false =>
  rw [if_neg g1q]
  exact wpAny_execs_nil ⟨σ1, H2, I2, q2⟩
end
structure It where
 go : Nat -> Hp -> Prop
 yld : Nat -> Hp -> V -> Hp -> Prop
 stop : Nat -> Hp -> Prop
def vH (X : Cx) (pins : List (Addr × Obj)) (H : Hp) (b : Addr) : Prop :=
 H b = none /\ b ≠ X.env.locals /\ b ∉ X.fs /\ (b ∈ X.ex \/ X.s₀.heap.objs.size <= b) /\ (∀ x c, X.env.cells.lookup x = some c -> c ≠ b) /\ ∀ p ∈ X.pn ++ pins, p.1 ≠ b
theorem Inv.fpOk {X : Cx} {pins : List (Addr × Obj)} {σ : St} {H H' : Hp} {s : Shared} {b : Addr} (I : Inv X pins σ H s) (hb : s.heap.objs.size <= b) (hn : H' b = none) : vH X pins H' b := by
 refine ⟨hn, Nat.ne_of_gt (g1d I.lt hb), I.nofs hb, .inr (g1y I.sz hb), fun x c e z => ?_, fun p hp z => ?_⟩
 ·obtain ⟨v, q⟩ := I.cell x c e
  exact absurd (g1d q.lt (by rw [z]; exact hb)) (g2x _)
 ·exact absurd (g1d (Heap.lt_size (I.pin p hp).1) (by rw [z]; exact hb)) (g2x _)
structure Turn (P : Program) (w : World) (K : W.Frag) (tg : Expr) (J : It) (fp : List Addr) (it : Addr) (tn : Nat -> Heap -> Prop) : Prop where
 mem : it ∈ fp
 obj : ∀ i h, tn i h -> ∀ b ∈ fp, ∃ o, h.get? b = some o /\ ∀ v, o.data ≠ .cell v
 keep : ∀ i h h', tn i h -> (∀ b ∈ fp, ∀ o, h.get? b = some o -> h'.get? b = some o) -> tn i h'
 item : ∀ (X : Cx), X.prog = P -> X.w = w -> X.K = K -> X.calm = true -> ∀ (i : Nat) (pins : List (Addr × Obj)) (s : Shared) (σ : St) (H : Hp) (E : Value -> Shared -> Prop), Inv X pins σ H s -> (∀ b ∈ fp, vH X pins H b) -> tn i s.heap -> J.go i H →
  wpAny (model P w) X.A (pyNext (.ref it)) (fun r s1 => ∃ u, r = some u ∧
   wpAny (model P w) X.A (letOwnedTupleGo tg (.ref it) u) (fun _ s2 => ∃ x H', Inv X pins σ H' s2 /\ xK x u /\ J.yld i H x H' /\ tn (i + 1) s2.heap /\ ∀ b ∈ fp, H' b = none) E s1) E s
 done : ∀ (X : Cx), X.prog = P -> X.w = w -> X.K = K -> X.calm = true -> ∀ (i : Nat) (pins : List (Addr × Obj)) (s : Shared) (σ : St) (H : Hp) (E : Value -> Shared -> Prop), Inv X pins σ H s -> (∀ b ∈ fp, vH X pins H b) -> tn i s.heap -> J.stop i H →
  wpAny (model P w) X.A (pyNext (.ref it)) (fun r s1 => r = none /\ Inv X pins σ H s1) E s
 self : ∀ (A : Around) (i : Nat) (s : Shared) (Q : Value -> Shared -> Prop) (E : Value -> Shared -> Prop), tn i s.heap -> Q (.ref it) s -> wpAny (model P w) A (pyIter (.ref it)) Q E s
abbrev TI := St -> Hp -> (It -> Hp -> Prop) -> Prop
def PIE (X : Cx) (pins : List (Addr × Obj)) (σ : St) (tg : Expr) (R : It -> Hp -> Prop) (itv : Value) (s2 : Shared) : Prop :=
 ∃ (it : Addr) (fp : List Addr) (tn : Nat -> Heap -> Prop) (J : It) (H' : Hp), itv = .ref it /\ Inv X pins σ H' s2 /\ Turn X.prog X.w X.K tg J fp it tn /\ tn 0 s2.heap /\ (∀ b ∈ fp, vH X pins H' b) /\ R J H'
def PI (X : Cx) (tg iter : Expr) (wi : TI) : Prop :=
 ∀ (pins : List (Addr × Obj)) (s : Shared) (σ : St) (H : Hp) (R : It -> Hp -> Prop), Inv X pins σ H s -> wi σ H R →
  wpAny (model X.prog X.w) X.A (eval iter X.env) (fun v s1 => wpAny (model X.prog X.w) X.A (pyIter v) (PIE X pins σ tg R) X.xe s1) X.xe s
theorem Q6 {M : Model} {A : Around} {E : Value -> Shared -> Prop} {s : Shared} {tg : Expr} {it : Addr} {u : Value} {o : Obj} {n : String} {vs : Array Value} {Q : Unit -> Shared -> Prop} (ho : s.heap.get? it = some o) (hc : o.cls = .type n) (hd : o.data = .fields vs)
    (hn : ["enumerate", "zip", "dict_itemiterator", "dict_reverseitemiterator", "odict_iterator", "itertools.zip_longest", "itertools.pairwise"].contains n = false) (hQ : Q () s) : wpAny M A (letOwnedTupleGo tg (.ref it) u) Q E s := by
  unfold letOwnedTupleGo
  cases tg <;> first
    | exact wpAny_pure hQ
    | (cases u <;> first
        | exact wpAny_pure hQ
        | (refine wpAny_bind (wpAny_load ho ?_)
           rw [hc, hd]
           show wpAny M A (if (["enumerate", "zip", "dict_itemiterator", "dict_reverseitemiterator", "odict_iterator", "itertools.zip_longest", "itertools.pairwise"].contains n && vs[0]? == some (rawInt _)) = true then _ else _) Q E s
           rw [if_neg (by intro h; rw [hn, Bool.false_and] at h; cases h)]
           exact wpAny_pure hQ))
def Itl (K : W.Frag) (a : Addr) : It :=
 ⟨fun i H => ∃ xs x, SqL K H a xs /\ xs[i]? = some x, fun i H x H' => H' = H /\ ∀ xs, SqL K H a xs -> xs[i]? = some x, fun i H => ∃ xs, SqL K H a xs /\ xs.length <= i⟩
def Itt (K : W.Frag) (a : Addr) : It :=
 ⟨fun i H => ∃ xs x, SqT K H a xs /\ xs[i]? = some x, fun i H x H' => H' = H /\ ∀ xs, SqT K H a xs -> xs[i]? = some x, fun i H => ∃ xs, SqT K H a xs /\ xs.length <= i⟩
def Itr (lo : Int) (n : Nat) : It := ⟨fun i _ => i < n, fun i H x H' => H' = H /\ x = .int (lo + i), fun i _ => n <= i⟩
theorem UK {P : Program} {w : World} {K : W.Frag} {tg : Expr} (a it : Addr) : Turn P w K tg (Itl K a) [it] it (fun i h => h.IsListIter it a i) where
 mem := by simp
 obj := fun i h st b hb => by
  have e : b = it := by simpa using hb
  subst e
  obtain ⟨o, e, c, d⟩ := st
  exact ⟨o, e, fun v z => by rw [d] at z; cases z⟩
 keep := fun i h h' st k => st.at fun o e => k it (by simp) o e
 item := by
  intro X hP hw hK hc i pins s σ H E I hf st hg
  subst hP hw hK
  obtain ⟨xs, x, hq, hx⟩ := hg
  obtain ⟨its, rv, p, hz⟩ := I.list hq
  obtain ⟨u, hu, ru⟩ := rv.get hx
  obtain ⟨f0, f1, f2, f3, f4, f5⟩ := hf it (by simp)
  refine wpAny_pyNext_list_item st p.isList (x := u) (by simpa using hu) fun h' st' sb => ?_
  have I1 : Inv X pins σ H { s with heap := h' } := I.turned (t' := s.toks) (fun b o hb e => (sb.2 b hb).trans e) f0 f1 f3 f4 f5
  obtain ⟨o, e, c, d⟩ := id st'
  exact ⟨u, rfl, Q6 (s := { s with heap := h' }) e c d (by decide) ⟨x, H, I1, ru, ⟨rfl, fun ys hy => by rw [I.list_inj hy hq]; exact hx⟩, st', fun b hb => (hf b hb).1⟩⟩
 done := by
  intro X hP hw hK hc i pins s σ H E I hf st hg
  subst hP hw hK
  obtain ⟨xs, hq, hx⟩ := hg
  obtain ⟨its, rv, p, hz⟩ := I.list hq
  obtain ⟨f0, f1, f2, f3, f4, f5⟩ := hf it (by simp)
  have hl := rv.length
  exact wpAny_pyNext_list_end (I.ok.hd hc) st p.isList (by simp; omega) fun h' eb => ⟨rfl, I.turned (t' := s.toks) (fun b o hb e => eb b o hb e) f0 f1 f3 f4 f5⟩
 self := fun _ _ _ _ _ st h => wpAny_pyIter_listiter st h
theorem VO {P : Program} {w : World} {K : W.Frag} {tg : Expr} (a it : Addr) : Turn P w K tg (Itt K a) [it] it (fun i h => h.IsTupleIter it a i) where
 mem := by simp
 obj := fun i h st b hb => by
  have e : b = it := by simpa using hb
  subst e
  obtain ⟨o, e, c, d⟩ := st
  exact ⟨o, e, fun v z => by rw [d] at z; cases z⟩
 keep := fun i h h' st k => st.at fun o e => k it (by simp) o e
 item := by
  intro X hP hw hK hc i pins s σ H E I hf st hg
  subst hP hw hK
  obtain ⟨xs, x, hq, hx⟩ := hg
  obtain ⟨its, rv, p, hz⟩ := I.tuple hq
  obtain ⟨u, hu, ru⟩ := rv.get hx
  obtain ⟨f0, f1, f2, f3, f4, f5⟩ := hf it (by simp)
  refine wpAny_pyNext_tuple_item st (show s.heap.IsTuple a its.toArray from p) (x := u) (by simpa using hu) fun h' st' sb => ?_
  have I1 : Inv X pins σ H { s with heap := h' } := I.turned (t' := s.toks) (fun b o hb e => (sb.2 b hb).trans e) f0 f1 f3 f4 f5
  obtain ⟨o, e, c, d⟩ := id st'
  exact ⟨u, rfl, Q6 (s := { s with heap := h' }) e c d (by decide) ⟨x, H, I1, ru, ⟨rfl, fun ys hy => by rw [I.tuple_inj hy hq]; exact hx⟩, st', fun b hb => (hf b hb).1⟩⟩
 done := by
  intro X hP hw hK hc i pins s σ H E I hf st hg
  subst hP hw hK
  obtain ⟨xs, hq, hx⟩ := hg
  obtain ⟨its, rv, p, hz⟩ := I.tuple hq
  obtain ⟨f0, f1, f2, f3, f4, f5⟩ := hf it (by simp)
  have hl := rv.length
  exact wpAny_pyNext_tuple_end (I.ok.hd hc) st (show s.heap.IsTuple a its.toArray from p) (by simp; omega) fun h' eb => ⟨rfl, I.turned (t' := s.toks) (fun b o hb e => eb b o hb e) f0 f1 f3 f4 f5⟩
 self := fun _ _ _ _ _ st h => wpAny_pyIter_tupleiter st h
theorem VP {P : Program} {w : World} {K : W.Frag} {tg : Expr} (it : Addr) (lo : Int) (n : Nat) : Turn P w K tg (Itr lo n) [it] it (fun i h => IsRangeIter h it (lo + (i : Nat) * 1) ((n : Int) - (i : Nat)) 1) where
 mem := by simp
 obj := fun i h st b hb => by
  have e : b = it := by simpa using hb
  subst e
  exact ⟨_, st, fun v z => by
   have z' : Data.fields _ = Data.cell v := z
   cases z'⟩
 keep := fun i h h' st k => k it (by simp) _ st
 item := by
  intro X hP hw hK hc i pins s σ H E I hf st hg
  subst hP hw hK
  obtain ⟨f0, f1, f2, f3, f4, f5⟩ := hf it (by simp)
  have W := Walks.range (prog := X.prog) (w := X.w) (I.ok.hd hc) it lo 1 n
  refine W.item i s _ _ hg st fun v h' tk hv st' kk => ?_
  obtain ⟨t, rfl⟩ := hv
  have I1 : Inv X pins σ H { s with heap := h', toks := tk } := I.turned (fun b o hb e => kk b o (by simpa using hb) e) f0 f1 f3 f4 f5
  refine ⟨_, rfl, Q6 (s := { s with heap := h', toks := tk }) (n := "range_iterator") st' rfl rfl (by decide) ⟨.int (lo + i), H, I1, ⟨t, ?_⟩, ⟨rfl, rfl⟩, st', fun b hb => (hf b hb).1⟩⟩
  rw [Int.mul_one]
 done := by
  intro X hP hw hK hc i pins s σ H E I hf st hg
  subst hP hw hK
  obtain ⟨f0, f1, f2, f3, f4, f5⟩ := hf it (by simp)
  exact wpAny_pyNext_range_end (I.ok.hd hc) st (by have : n <= i := hg; omega) fun h' eb => ⟨rfl, I.turned (t' := s.toks) (fun b o hb e => eb b o hb e) f0 f1 f3 f4 f5⟩
 self := fun _ _ _ _ _ st h => wpAny_pyIter_rangeiter st h
section
variable {X : Cx} {tg : Expr}
theorem W7 {pins : List (Addr × Obj)} {σ : St} {H : Hp} {s : Shared} {R : It -> Hp -> Prop} {E : Value -> Shared -> Prop} {lo hi : Int} {t u v : Tok} {tk : Nat} (I : Inv X pins σ H s) (h1 : -(2 ^ 62) <= lo) (h2 : lo < 2 ^ 62) (h3 : -(2 ^ 62) <= hi) (h4 : hi < 2 ^ 62)
  (q : R (Itr lo (hi - lo).toNat) H) : wpAny (model X.prog X.w) X.A (pyIter (.ref s.heap.objs.size)) (PIE X pins σ tg R) E { s with heap := s.heap.push { cls := .type "range", data := .fields #[.int lo t, .int hi u, .int 1 v] }, toks := tk } := by
 refine wpAny_pyIter_range (IsRange.new ..) (small_one h1 h2 h3 h4) ?_
 have I1 : Inv X pins σ H { s with heap := s.heap.push { cls := .type "range", data := .fields #[.int lo t, .int hi u, .int 1 v] }, toks := tk } := I.kept fun b o e => Heap.get?_push_of_some _ e
 refine ⟨(s.heap.push { cls := .type "range", data := .fields #[.int lo t, .int hi u, .int 1 v] }).objs.size, [(s.heap.push { cls := .type "range", data := .fields #[.int lo t, .int hi u, .int 1 v] }).objs.size], _, _, H, rfl,
  I1.kept (t' := tk) fun b o e => Heap.get?_push_of_some _ e, VP _ lo (hi - lo).toNat, ?_, fun b hb => ?_, q⟩
 ·have e1 : lo + ((0 : Nat) : Int) * 1 = lo := by simp
  have e2 : (((hi - lo).toNat : Nat) : Int) - ((0 : Nat) : Int) = Builtin.Range.rangeSize lo hi 1 := by rw [rangeSize_one]; split <;> omega
  show IsRangeIter _ _ (lo + ((0 : Nat) : Int) * 1) ((((hi - lo).toNat : Nat) : Int) - ((0 : Nat) : Int)) 1
  rw [e1, e2]
  exact Heap.get?_push_size _ rfl
 ·have e : b = (s.heap.push { cls := .type "range", data := .fields #[.int lo t, .int hi u, .int 1 v] }).objs.size := by simpa using hb
  subst e
  exact I1.fpOk (g0o _) (I1.hok.fresh (g0o _))
def Fl (ta : TA) : TI := fun σ H R => ta σ H fun vs H1 => ∃ j : Int, vs = [.int j] /\ -(2 ^ 62) <= j /\ j < 2 ^ 62 /\ R (Itr 0 j.toNat) H1
def Fk (ta : TA) : TI := fun σ H R => ta σ H fun vs H1 => ∃ i j : Int, vs = [.int i, .int j] /\ (-(2 ^ 62) <= i /\ i < 2 ^ 62 /\ -(2 ^ 62) <= j /\ j < 2 ^ 62) /\ R (Itr i (j - i).toNat) H1
theorem Qh {a : Expr} {ta : TA} {p pos : Pos} (hg : Gl X "range") (hm : X.mg "range" = none) (ha : PA X [a] ta) (hs : starEach [a] X.env = [(false, eval a X.env)] := by rfl) : PI X tg (.Call (.Name "range" p) [a] [] pos) (Fl ta) := by
 intro pins s σ H R I h
 refine Call_ (vV I hg hm boot_range (PyProof.Rows.callWith_type1 (thn (ha pos pins s σ H _ I h) fun us s1 ⟨vs, H1, I1, r1, q1⟩ => ?_) hs rfl))
 obtain ⟨j, e, q1, q2, q⟩ := q1
 subst e
 cases r1 with
 | cons r rr =>
  cases rr
  obtain ⟨t, rfl⟩ := r
  exact call_range_1 (W7 I1 (by omega) (by omega) q1 q2 (by simpa using q))
theorem Qg {a b : Expr} {ta : TA} {p pos : Pos} (hg : Gl X "range") (hm : X.mg "range" = none) (ha : PA X [a, b] ta) (hs : starEach [a, b] X.env = [(false, eval a X.env), (false, eval b X.env)] := by rfl) (hs2 : starEach [b] X.env = [(false, eval b X.env)] := by rfl) :
  PI X tg (.Call (.Name "range" p) [a, b] [] pos) (Fk ta) := by
 intro pins s σ H R I h
 refine Call_ (vV I hg hm boot_range (PyProof.Rows.callWith_type1 (thn (ha pos pins s σ H _ I h) fun us s1 ⟨vs, H1, I1, r1, q1⟩ => ?_) (by rw [hs, hs2]) (by rw [hs2]; rfl)))
 obtain ⟨i, j, e, ⟨q1, q2, q3, q4⟩, q⟩ := q1
 subst e
 cases r1 with
 | cons r rr =>
  cases rr with
  | cons r' rr =>
   cases rr
   obtain ⟨t, rfl⟩ := r
   obtain ⟨t', rfl⟩ := r'
   exact call_range_2 (W7 I1 q1 q2 q3 q4 q)
def Mx (wi : TI) (g : TG) (tb : TS) : TS := fun D σ H => wi σ H fun J H1 => ∃ W : Nat -> Nat -> St -> Hp -> Prop, (∃ m, W 0 m σ H1) /\ ∀ i m σ H, W i m σ H →
 (J.stop i H /\ D.nx σ H) \/ (J.go i H /\ ∃ N : St -> Hp -> Prop, (∀ σ' H', N σ' H' -> ∃ m', m' < m /\ W (i + 1) m' σ' H') /\ ∀ x H', J.yld i H x H' -> g x σ H' fun σ2 H2 => tb { D with nx := N, ct := N, bk := D.nx } σ2 H2)
def jG (fp : List Addr) (h : Heap) : List (Addr × Obj) := fp.filterMap fun b => (h.get? b).map fun o => (b, o)
theorem xH {fp : List Addr} {h : Heap} {b : Addr} {o : Obj} (hb : b ∈ fp) (e : h.get? b = some o) : (b, o) ∈ jG fp h := List.mem_filterMap.mpr ⟨b, hb, by rw [e]; rfl⟩
theorem ky {fp : List Addr} {h : Heap} {p : Addr × Obj} (hp : p ∈ jG fp h) : p.1 ∈ fp /\ h.get? p.1 = some p.2 := by
 obtain ⟨b, hb, e⟩ := List.mem_filterMap.mp hp
 cases q : h.get? b with
 | none => rw [q] at e; cases e
 | some o =>
  rw [q] at e
  have e' : (b, o) = p := g2s.inj e
  subst e'
  exact ⟨hb, q⟩
theorem Inv.pinned {pins : List (Addr × Obj)} {σ : St} {H : Hp} {s : Shared} {fp : List Addr} (I : Inv X pins σ H s) (hf : ∀ b ∈ fp, vH X pins H b) (ho : ∀ b ∈ fp, ∃ o, s.heap.get? b = some o /\ ∀ v, o.data ≠ .cell v) : Inv X (pins ++ jG fp s.heap) σ H s :=
 I.pins_of fun p hp => (g1h.mp hp).elim (fun z => I.pin p (g0v _ z)) fun z => by
  obtain ⟨hb, e⟩ := ky z
  obtain ⟨f0, f1, f2, _⟩ := hf p.1 hb
  obtain ⟨o, e', d⟩ := ho p.1 hb
  rw [e] at e'; cases e'
  exact ⟨e, f0, f1, f2, d⟩
theorem Inv.unpinned {pins pl : List (Addr × Obj)} {σ : St} {H : Hp} {s : Shared} (I : Inv X (pins ++ pl) σ H s) : Inv X pins σ H s := I.pins_of fun p hp => I.pin p (g0v _ (g2y _ hp))
theorem Vb {iter : Expr} {body : List Stmt} {wi : TI} {g : TG} {tb : TS} {pos : Pos} (hp : PassesOwn (model X.prog X.w) X.A X.env X.xe) (hc : X.calm = true) (hi : PI X tg iter wi) (hg : PG X tg g) (hb : PSs X body tb)
  (hs : ∀ x, foldedSetIterable iter X.env x = pure x := by intro _; rfl) : PS X (.For tg iter body [] pos) (Mx wi g tb) := by
 intro pins s σ H D I h
 refine wpAny_For (thn (hi pins s σ H _ I h) fun v s1 h1 => thn h1 fun itv s2 h2 => ?_) hs
 obtain ⟨it, fp, tn, J, H2, e, I2, T, st2, f2, W, ⟨m0, w0⟩, turn⟩ := h2
 subst e
 have stat : ∀ {H' : Hp}, (∀ b ∈ fp, H' b = none) -> ∀ b ∈ fp, vH X pins H' b := fun hn b hb => ⟨hn b hb, (f2 b hb).2⟩
 refine codeAny_forLoop_any (fun n s' => ∃ i σ' H', Inv X pins σ' H' s' /\ tn i s'.heap /\ (∀ b ∈ fp, H' b = none) /\ W i n σ' H') ?_ m0 ⟨0, σ, H2, I2, st2, fun b hb => (f2 b hb).1, w0⟩
 rintro n s3 ⟨i, σ3, H3, I3, st3, fr3, w3⟩
 rcases turn i n σ3 H3 w3 with ⟨stop, qn⟩ | ⟨go, N, hN, step⟩
 ·refine wpAny_passesOwn hp (thn (T.done X rfl rfl rfl hc i pins s3 σ3 H3 X.xe I3 (stat fr3) st3 stop) fun r s4 ⟨hr, I4⟩ => ?_)
  subst hr
  exact wpAny_execs_nil ⟨σ3, H3, I4, qn⟩
 ·refine wpAny_passesOwn hp (thn (T.item X rfl rfl rfl hc i pins s3 σ3 H3 X.xe I3 (stat fr3) st3 go) fun r s4 ⟨u, hr, h4⟩ => ?_)
  subst hr
  refine wpAny_passesOwn hp (thn h4 fun _ s5 ⟨x, H5, I5, r5, y5, st5, fr5⟩ => ?_)
  have I5' := I5.pinned (stat fr5) (T.obj _ _ st5)
  refine wpAny_passesOwn hp (thn (hg _ s5 σ3 H5 x u _ I5' r5 (step x H5 y5)) fun _ s6 ⟨σ6, H6, I6, q6⟩ => ?_)
  refine wpAny_passesOwn hp (thn (hb _ s6 σ6 H6 _ I6 q6) fun f s7 q7 => ?_)
  have again : ∀ {σ7 : St} {H7 : Hp}, Inv X (pins ++ jG fp s5.heap) σ7 H7 s7 -> N σ7 H7 -> ∃ m, m < n /\ ∃ i σ' H', Inv X pins σ' H' s7 /\ tn i s7.heap /\ (∀ b ∈ fp, H' b = none) /\ W i m σ' H' := fun {σ7 H7} I7 n7 => by
   obtain ⟨m', hm, w7⟩ := hN σ7 H7 n7
   refine ⟨m', hm, i + 1, σ7, H7, I7.unpinned, T.keep _ _ _ st5 fun b hb o e => (I7.pin (b, o) (g0v _ (g0v _ (xH hb e)))).1, fun b hb => ?_, w7⟩
   obtain ⟨o, e, d⟩ := T.obj _ _ st5 b hb
   exact (I7.pin (b, o) (g0v _ (g0v _ (xH hb e)))).2.1
  cases f with
  | next => obtain ⟨σ7, H7, I7, n7⟩ := q7; exact again I7 n7
  | cont => obtain ⟨σ7, H7, I7, n7⟩ := q7; exact again I7 n7
  | brk => obtain ⟨σ7, H7, I7, q7⟩ := q7; exact ⟨σ7, H7, I7.unpinned, q7⟩
  | ret v => obtain ⟨x7, σ7, H7, I7, r7, q7⟩ := q7; exact ⟨x7, σ7, H7, I7.unpinned, r7, q7⟩
end
abbrev R2 := V -> V -> Hp -> VK -> Prop
def OpR (X : Cx) (f : Value -> Value -> Sem Value) (r : R2) : Prop :=
 ∀ (pins : List (Addr × Obj)) (s : Shared) (σ : St) (H : Hp) (x y : V) (v u : Value) (Q : VK), Inv X pins σ H s -> xK x v -> xK y u -> r x y H Q →
  wpAny (model X.prog X.w) X.A (f v u) (EP X pins σ Q) X.xe s
def UnR (X : Cx) (f : Value -> Sem Value) (r : V -> Hp -> VK -> Prop) : Prop :=
 ∀ (pins : List (Addr × Obj)) (s : Shared) (σ : St) (H : Hp) (x : V) (v : Value) (Q : VK), Inv X pins σ H s -> xK x v -> r x H Q →
  wpAny (model X.prog X.w) X.A (f v) (EP X pins σ Q) X.xe s
def uC (X : Cx) (f : Value) (r : List V -> Hp -> VK -> Prop) : Prop :=
 ∀ (pins : List (Addr × Obj)) (s : Shared) (σ : St) (H : Hp) (xs : List V) (us : List Value) (Q : VK), Inv X pins σ H s -> xk xs us -> r xs H Q →
  wpAny (model X.prog X.w) X.A (call f us) (EP X pins σ Q) X.xe s
def tOp (r : R2) (ta tb : TE) : TE := fun σ H Q => ta σ H fun x H1 => tb σ H1 fun y H2 => r x y H2 Q
def tUn (r : V -> Hp -> VK -> Prop) (ta : TE) : TE := fun σ H Q => ta σ H fun x H1 => r x H1 Q
def rI (C : Int -> Int -> Prop) (g : Int -> Int -> V) : R2 := fun x y H Q => ∃ i j, x = .int i /\ y = .int j /\ C i j /\ Q (g i j) H
def rI0 (g : Int -> Int -> V) : R2 := fun x y H Q => ∃ i j, x = .int i /\ y = .int j /\ Q (g i j) H
def rU (g : Int -> V) : V -> Hp -> VK -> Prop := fun x H Q => ∃ i, x = .int i /\ Q (g i) H
section
variable {X : Cx} {a b c : Expr} {ta tb tc : TE} {pos : Pos}
theorem Fy (ha : PE X a ta) (hb : PE X b tb) {pins : List (Addr × Obj)} {s : Shared} {σ : St} {H : Hp} {R : V -> V -> Hp -> Prop} (I : Inv X pins σ H s)
  (h : ta σ H fun x H1 => tb σ H1 fun y H2 => R x y H2) {Q : Value -> Shared -> Prop} {f : Value -> Value -> Sem Value}
  (hf : ∀ v u s2 x y H2, Inv X pins σ H2 s2 -> xK x v -> xK y u -> R x y H2 -> wpAny (model X.prog X.w) X.A (f v u) Q X.xe s2) :
  wpAny (model X.prog X.w) X.A (eval a X.env) (fun v s₁ => wpAny (model X.prog X.w) X.A (eval b X.env) (fun u s₂ => wpAny (model X.prog X.w) X.A (f v u) Q X.xe s₂) X.xe s₁) X.xe s := by
 refine thn (ha pins s σ H _ I h) fun v s1 ⟨x, H1, I1, r1, q1⟩ => ?_
 refine thn (hb pins s1 σ H1 _ I1 q1) fun u s2 ⟨y, H2, I2, r2, q2⟩ => ?_
 exact hf v u s2 x y H2 I2 r1 r2 q2
theorem Cq {op : Operator} {r : R2} (ho : OpR X (binaryOp op) r) (ha : PE X a ta) (hb : PE X b tb) : PE X (.BinOp a op b pos) (tOp r ta tb) := by
 intro pins s σ H Q I h
 exact wpAny_BinOp (Fy ha hb I h fun v u s2 x y H2 I2 rx ry q => ho pins s2 σ H2 x y v u Q I2 rx ry q)
theorem D8 {op : UnaryOp} {r : V -> Hp -> VK -> Prop} (ho : UnR X (unaryOp op) r) (ha : PE X a ta) : PE X (.UnaryOp op a pos) (tUn r ta) := by
 intro pins s σ H Q I h
 exact UnaryOp_ (thn (ha pins s σ H _ I h) fun v s1 ⟨x, H1, I1, r1, q1⟩ => ho pins s1 σ H1 x v Q I1 r1 q1)
theorem opI {f : Value -> Value -> Sem Value} {C : Int -> Int -> Prop} {g : Int -> Int -> Int}
  (rule : ∀ (i j : Int) (t u : Tok) (s : Shared) (Q : Value -> Shared -> Prop) (E : Value -> Shared -> Prop), C i j -> Q (.int (g i j) s.toks) { s with toks := s.toks + 1 } -> wpAny (model X.prog X.w) X.A (f (.int i t) (.int j u)) Q E s) :
  OpR X f (rI C fun i j => .int (g i j)) := by
 intro pins s σ H x y v u Q I rx ry h
 obtain ⟨i, j, rfl, rfl, hc, q⟩ := h
 obtain ⟨t, rfl⟩ := rx
 obtain ⟨t', rfl⟩ := ry
 exact rule i j t t' s _ _ hc ⟨.int (g i j), H, I.tok _, ⟨_, rfl⟩, q⟩
theorem Mh {f : Value -> Value -> Sem Value} {g : Int -> Int -> Int}
  (rule : ∀ (i j : Int) (t u : Tok) (s : Shared) (Q : Value -> Shared -> Prop) (E : Value -> Shared -> Prop), Q (.int (g i j) s.toks) { s with toks := s.toks + 1 } -> wpAny (model X.prog X.w) X.A (f (.int i t) (.int j u)) Q E s) :
  OpR X f (rI0 fun i j => .int (g i j)) := by
 intro pins s σ H x y v u Q I rx ry h
 obtain ⟨i, j, rfl, rfl, q⟩ := h
 obtain ⟨t, rfl⟩ := rx
 obtain ⟨t', rfl⟩ := ry
 exact rule i j t t' s _ _ ⟨.int (g i j), H, I.tok _, ⟨_, rfl⟩, q⟩
theorem Ds {f : Value -> Value -> Sem Value} {g : Int -> Int -> Bool}
  (rule : ∀ (i j : Int) (t u : Tok) (s : Shared) (Q : Value -> Shared -> Prop) (E : Value -> Shared -> Prop), Q (.bool (g i j)) s -> wpAny (model X.prog X.w) X.A (f (.int i t) (.int j u)) Q E s) :
  OpR X f (rI0 fun i j => .bl (g i j)) := by
 intro pins s σ H x y v u Q I rx ry h
 obtain ⟨i, j, rfl, rfl, q⟩ := h
 obtain ⟨t, rfl⟩ := rx
 obtain ⟨t', rfl⟩ := ry
 exact rule i j t t' s _ _ ⟨.bl (g i j), H, I, rfl, q⟩
theorem CB : OpR X (binaryOp .Add) (rI0 fun i j => .int (i + j)) := Mh fun _ _ _ _ _ _ _ q => add_int q
theorem Gs : OpR X (binaryOp .Sub) (rI0 fun i j => .int (i - j)) := Mh fun _ _ _ _ _ _ _ q => sub_int q
theorem CA : OpR X (binaryOp .Mod) (rI (fun _ j => 0 < j) fun i j => .int (i % j)) := opI fun i j _ _ _ _ _ hc q => by
 have h1 : (0 : Int) < j := hc
 exact mod_int' (by omega) (by rw [Int.fmod_eq_emod_of_nonneg i (by omega)]; exact q)
theorem unI {f : Value -> Sem Value} {g : Int -> Int}
  (rule : ∀ (i : Int) (t : Tok) (s : Shared) (Q : Value -> Shared -> Prop) (E : Value -> Shared -> Prop), Q (.int (g i) s.toks) { s with toks := s.toks + 1 } -> wpAny (model X.prog X.w) X.A (f (.int i t)) Q E s) :
  UnR X f (rU fun i => .int (g i)) := by
 intro pins s σ H x v Q I rx h
 obtain ⟨i, rfl, q⟩ := h
 obtain ⟨t, rfl⟩ := rx
 exact rule i t s _ _ ⟨.int (g i), H, I.tok _, ⟨_, rfl⟩, q⟩
theorem BI : UnR X (unaryOp .USub) (rU fun i => .int (-i)) := unI fun _ _ _ _ _ q => neg_int q
end
section
variable {X : Cx} {a b c : Expr} {ta tb tc : TE} {pos : Pos}
theorem Vt {pins : List (Addr × Obj)} {σ : St} {H : Hp} {s : Shared} {Q : VK} {k k' : Bool} (I : Inv X pins σ H s) (q : Q (.bl k) H) (e : k = k') : EP X pins σ Q (.bool k') s := by
 subst e
 exact ⟨.bl k, H, I, rfl, q⟩
theorem V6 : OpR X (compareOp .Lt) (rI0 fun i j => .bl (decide (i < j))) := Ds fun _ _ _ _ _ _ _ q => lt_int q
theorem Qo : OpR X (compareOp .LtE) (rI0 fun i j => .bl (decide (i <= j))) := Ds fun _ _ _ _ _ _ _ q => le_int q
theorem Fb : OpR X (compareOp .Gt) (rI0 fun i j => .bl (decide (j < i))) := Ds fun _ _ _ _ _ _ _ q => gt_int q
theorem Fc : OpR X (compareOp .GtE) (rI0 fun i j => .bl (decide (j <= i))) := Ds fun _ _ _ _ _ _ _ q => ge_int q
theorem Qp : OpR X (compareOp .In) (fun x y H Q => ∃ i j, x = .str i /\ y = .str j /\ Q (.bl (!(Builtin.Str.occurrences j i 0 j.length 1).isEmpty)) H) := by
 intro pins s σ H x y v u Q I rx ry h
 obtain ⟨i, j, rfl, rfl, q⟩ := h
 obtain ⟨t, rfl⟩ := rx
 obtain ⟨t', rfl⟩ := ry
 exact in_str (Vt I q rfl)
theorem Gu : OpR X (compareOp .Is) (fun x y H Q => y = .non /\ Q (.bl (decide (x = .non))) H) := by
 intro pins s σ H x y v u Q I rx ry h
 obtain ⟨rfl, q⟩ := h
 cases ry
 refine is_none_gen (Vt I q ?_)
 cases x <;> first
  | (cases rx; rfl)
  | (obtain ⟨t, rfl⟩ := rx; rfl)
theorem Hm : OpR X (compareOp .IsNot) (fun x y H Q => y = .non /\ Q (.bl (!decide (x = .non))) H) := by
 intro pins s σ H x y v u Q I rx ry h
 obtain ⟨rfl, q⟩ := h
 cases ry
 refine isnot_none_gen (Vt I q ?_)
 cases x <;> first
  | (cases rx; rfl)
  | (obtain ⟨t, rfl⟩ := rx; rfl)
theorem Xi : OpR X (compareOp .NotIn) (fun x y H Q => ∃ i j, x = .str i /\ y = .str j /\ Q (.bl (!(!(Builtin.Str.occurrences j i 0 j.length 1).isEmpty))) H) := by
 intro pins s σ H x y v u Q I rx ry h
 obtain ⟨i, j, rfl, rfl, q⟩ := h
 obtain ⟨t, rfl⟩ := rx
 obtain ⟨t', rfl⟩ := ry
 exact notIn_str (Vt I q rfl)
theorem OpR.or {f : Value -> Value -> Sem Value} {r r' : R2} (h : OpR X f r) (h' : OpR X f r') : OpR X f (fun x y H Q => r x y H Q \/ r' x y H Q) := by
 intro pins s σ H x y v u Q I rx ry q
 rcases q with q | q
 ·exact h pins s σ H x y v u Q I rx ry q
 ·exact h' pins s σ H x y v u Q I rx ry q
theorem qd (b : Expr) {op : CmpOp} (h : op ≠ .In := by decide) (h2 : op ≠ .NotIn := by decide) : behindInMarks op b = false := by
 have e1 : (op == CmpOp.In) = false := by cases op <;> first | rfl | exact absurd rfl h
 have e2 : (op == CmpOp.NotIn) = false := by cases op <;> first | rfl | exact absurd rfl h2
 cases b <;> simp [behindInMarks, e1, e2]
theorem Hi {op : CmpOp} {r : R2} (ho : OpR X (compareOp op) r) (ha : PE X a ta) (hb : PE X b tb) (hm : behindInMarks op b = false) : PE X (.Compare a [op] [b] pos) (tOp r ta tb) := by
 intro pins s σ H Q I h
 exact wpAny_Compare1 (Fy ha hb I h fun v u s2 x y H2 I2 rx ry q => ho pins s2 σ H2 x y v u Q I2 rx ry q) hm
def BM (t : TE) : TT := fun σ H Q => t σ H fun x H' => ∃ k, x = .bl k /\ Q k H'
theorem Qb {op : CmpOp} {r : R2} (ho : OpR X (compareOp op) r) (ha : PE X a ta) (hb : PE X b tb) (hm : behindInMarks op b = false) : PT X (.Compare a [op] [b] pos) (BM (tOp r ta tb)) := by
 intro pins s σ H Q I h
 refine wpAny_isTrue_Compare1 (thn (ha pins s σ H _ I h) fun v s1 ⟨x, H1, I1, r1, q1⟩ => thn (hb pins s1 σ H1 _ I1 q1) fun u s2 ⟨y, H2, I2, r2, q2⟩ =>
  thn (ho pins s2 σ H2 x y v u _ I2 r1 r2 q2) fun c s3 ⟨z, H3, I3, r3, k, e, q3⟩ => ?_) hm
 subst e
 cases r3
 exact wpAny_truthy_bool ⟨H3, I3, q3⟩
def UN (r r' : R2) (ta tb tc : TE) : TE := fun σ H Q => ta σ H fun x H1 => tb σ H1 fun y H2 => r x y H2 fun z H3 => ∃ k, z = .bl k ∧
 (if k = true then tc σ H3 fun w' H4 => r' y w' H4 Q else Q (.bl false) H3)
theorem Kc {op op' : CmpOp} {r r' : R2} (ho : OpR X (compareOp op) r) (ho' : OpR X (compareOp op') r') (ha : PE X a ta) (hb : PE X b tb) (hc : PE X c tc)
  (hm : lastMarks [op, op'] [b, c] = false := by with_unfolding_all rfl) : PE X (.Compare a [op, op'] [b, c] pos) (UN r r' ta tb tc) := by
 intro pins s σ H Q I h
 refine Compare_chain (thn (ha pins s σ H _ I h) fun v s1 ⟨x, H1, I1, r1, q1⟩ => chain_link (thn (hb pins s1 σ H1 _ I1 q1) fun u s2 ⟨y, H2, I2, r2, q2⟩ =>
  thn (ho pins s2 σ H2 x y v u _ I2 r1 r2 q2) fun d s3 ⟨z, H3, I3, r3, k, e, q3⟩ => ?_)) hm
 subst e
 cases r3
 refine wpAny_truthy_bool ?_
 cases k with
 | false => exact ite_ff ⟨.bl false, H3, I3, rfl, q3⟩
 | true => exact ite_tt (chain_last (thn (hc pins s3 σ H3 _ I3 q3) fun w' s4 ⟨z', H4, I4, r4, q4⟩ => ho' pins s4 σ H4 y z' u w' Q I4 r2 r4 q4))
theorem J6 {op op' : CmpOp} {r r' : R2} (ho : OpR X (compareOp op) r) (ho' : OpR X (compareOp op') r') (ha : PE X a ta) (hb : PE X b tb) (hc : PE X c tc)
  (hm : lastMarks [op, op'] [b, c] = false := by with_unfolding_all rfl) : PT X (.Compare a [op, op'] [b, c] pos) (BM (UN r r' ta tb tc)) := by
 intro pins s σ H Q I h
 refine isTrue_chain (thn (ha pins s σ H _ I h) fun v s1 ⟨x, H1, I1, r1, q1⟩ => test_link (thn (hb pins s1 σ H1 _ I1 q1) fun u s2 ⟨y, H2, I2, r2, q2⟩ =>
  thn (ho pins s2 σ H2 x y v u _ I2 r1 r2 q2) fun d s3 ⟨z, H3, I3, r3, k, e, q3⟩ => ?_)) hm
 subst e
 cases r3
 refine wpAny_truthy_bool ?_
 cases k with
 | false =>
  obtain ⟨k', e', q'⟩ := q3
  cases e'
  exact ite_ff ⟨H3, I3, q'⟩
 | true =>
  refine ite_tt (test_last (thn (hc pins s3 σ H3 _ I3 q3) fun w' s4 ⟨z', H4, I4, r4, q4⟩ => thn (ho' pins s4 σ H4 y z' u w' _ I4 r2 r4 q4) fun d' s5 ⟨z2, H5, I5, r5, k2, e2, q5⟩ => ?_))
  subst e2
  cases r5
  exact wpAny_truthy_bool ⟨H5, I5, q5⟩
theorem qe : (sizeLine : Nat) < 2 ^ 63 := by rw [sizeLine_eq]; decide
theorem V7 : OpR X (binaryOp .Add) (fun x y H Q => ∃ i j, x = .str i /\ y = .str j /\ i.length + j.length <= sizeLine /\ Q (.str (i ++ j)) H) := by
 intro pins s σ H x y v u Q I rx ry h
 obtain ⟨i, j, rfl, rfl, hz, q⟩ := h
 obtain ⟨t, rfl⟩ := rx
 obtain ⟨t', rfl⟩ := ry
 exact add_str (fun t' tk => ⟨.str (i ++ j), H, I.tok _, ⟨_, rfl⟩, q⟩) hz
theorem VN {x : V} {us : List Value} (r : xk [x] us) : ∃ u, us = [u] /\ xK x u := by
 cases r with
 | cons r1 r2 => cases r2; exact ⟨_, rfl, r1⟩
theorem GQ {x y : V} {us : List Value} (r : xk [x, y] us) : ∃ u w', us = [u, w'] /\ xK x u /\ xK y w' := by
 cases r with
 | cons r1 r2 =>
  cases r2 with
  | cons r3 r4 => cases r4; exact ⟨_, _, rfl, r1, r3⟩
theorem XR (hc : X.calm = true) : uC X (.builtin "max") (fun xs H Q => ∃ i j, xs = [.int i, .int j] /\ Q (.int (if j > i then j else i)) H) := by
 intro pins s σ H xs us Q I r h
 obtain ⟨i, j, rfl, q⟩ := h
 obtain ⟨u, w', rfl, ⟨t, rfl⟩, ⟨t', rfl⟩⟩ := GQ r
 refine max_two_ints (I.ok.hd hc) fun h' tk k => ⟨_, H, I.kept k, ?_, q⟩
 by_cases hj : j > i
 ·rw [if_pos hj, if_pos hj]; exact ⟨_, rfl⟩
 ·rw [if_neg hj, if_neg hj]; exact ⟨_, rfl⟩
theorem XQ (hc : X.calm = true) : uC X (.builtin "min") (fun xs H Q => ∃ i j, xs = [.int i, .int j] /\ Q (.int (if j < i then j else i)) H) := by
 intro pins s σ H xs us Q I r h
 obtain ⟨i, j, rfl, q⟩ := h
 obtain ⟨u, w', rfl, ⟨t, rfl⟩, ⟨t', rfl⟩⟩ := GQ r
 refine min_two_ints (I.ok.hd hc) fun h' tk k => ⟨_, H, I.kept k, ?_, q⟩
 by_cases hj : j < i
 ·rw [if_pos hj, if_pos hj]; exact ⟨_, rfl⟩
 ·rw [if_neg hj, if_neg hj]; exact ⟨_, rfl⟩
theorem XU : uC X (.type "int") (fun xs H Q => (∃ i, xs = [.int i] /\ Q (.int i) H) \/ ∃ k, xs = [.bl k] /\ Q (.int (if k then 1 else 0)) H) := by
 intro pins s σ H xs us Q I r h
 rcases h with ⟨i, rfl, q⟩ | ⟨k, rfl, q⟩
 ·obtain ⟨u, rfl, t, rfl⟩ := VN r
  exact call_int_int ⟨.int i, H, I, ⟨_, rfl⟩, q⟩
 ·obtain ⟨u, rfl, r1⟩ := VN r
  cases r1
  exact call_int_bool ⟨.int (if k then 1 else 0), H, I.tok _, ⟨_, rfl⟩, q⟩
end
structure ObjM (h : Heap) (x dx C : Addr) (mA : Str -> Option Value) : Prop where
 obj : h.get? x = some (PySem.W.instObj C dx)
 ns : h.Ns1 dx mA
 ne : dx ≠ x
theorem QL {h : Heap} {dx : Addr} {mA : Str -> Option Value} (n : h.Ns1 dx mA) : ∃ od, h.get? dx = some od /\ ∀ name, PySem.W.lookIn name od = some (mA name) := by
 obtain ⟨o, es, ep, ho, hd, hk, _, hm⟩ := n
 refine ⟨o, ho, fun name => ?_⟩
 have e := hm name
 unfold nsFind findBy at e
 rw [<- Array.find?_toList] at e
 unfold PySem.W.lookIn
 rw [hd]
 dsimp only
 split
 ·rename_i y q
  rw [q] at e
  exact congrArg some e
 ·rename_i q
  rw [q] at e
  have a : es.toList.any (·.refKey) = false := by
   rw [List.any_eq_false]
   intro y hy
   obtain ⟨z, t, hkey⟩ := hk y (Array.mem_toList_iff.mp hy)
   simp [DictEntry.refKey, hkey]
  have a' : ¬ es.toList.any (·.refKey) = true := by rw [a]; exact g1q
  rw [if_neg a']
  exact congrArg some e
theorem ObjM.look {h : Heap} {x dx C : Addr} {mA : Str -> Option Value} (I : ObjM h x dx C mA) : ∃ od, PySem.W.InstAt h x (PySem.W.instObj C dx) C (some od) /\ ∀ name, PySem.W.lookIn name od = some (mA name) :=
 let ⟨od, ho, hl⟩ := QL I.ns
 ⟨od, ⟨I.obj, rfl, rfl, ho⟩, hl⟩
section
variable {prog : Program} {w : World} {A : Around} {E : Value -> Shared -> Prop} {s : Shared} {K : W.Frag} {x dx C f : Addr} {mA : Str -> Option Value} {name : Str} {v : Value}
theorem HX {expr : Bool} {Q : Value -> Shared -> Prop} (X : K.In s.heap) (I : ObjM s.heap x dx C mA) (hg : PySem.W.plainGet K C name = true) (hh : PySem.W.hasDictIn K C = true)
  (ha : PySem.W.findIn K (.ref C) name = some none) (hv : mA name = some v) (hv' : PySem.W.handedIn v = true) (h : Q v { s with toks := s.toks + 1 }) :
  wpAny (model prog w) A (getAttr (.ref x) name expr) Q E s := by
 obtain ⟨od, J, hl⟩ := I.look
 exact PySem.W.get_value X J (PySem.W.plainGet_of hg).1 (PySem.W.findObj_own hh ha rfl (by rw [hl, hv])) hv' h
theorem KH {pl : Sem Bool} {Q : Value × List Value -> Shared -> Prop} (X : K.In s.heap) (I : ObjM s.heap x dx C mA) (hg : PySem.W.plainGet K C name = true)
  (hf : PySem.W.findIn K (.ref C) name = some (some (.ref f))) (ht : PySem.W.isFn K (.ref f) = true) (hv : mA name = none) (h : Q (.ref f, [.ref x]) s) :
  wpAny (model prog w) A (getMethod (.ref x) name pl) Q E s := by
 obtain ⟨od, J, hl⟩ := I.look
 exact PySem.W.method_fn X J (PySem.W.plainGet_of hg).1 (PySem.W.plainGet_of hg).2 hf (beq_iff_eq.mp ht) (by show (PySem.W.lookIn name od).map (·.isSome) = some false; rw [hl, hv]; rfl) h
theorem GX {ns : List Str} {Q : Unit -> Shared -> Prop} (X : K.In s.heap) (I : ObjM s.heap x dx C mA)
  (hs : PySem.W.findIn K (.ref C) "__setattr__" = some (some (.builtin "object.__setattr__"))) (hp : PySem.W.plainOver K C = true) (ht : PySem.W.takerIn K C name = some none) (hh : PySem.W.hasDictIn K C = true)
  (hw : PySem.Within mA ns) (hsz : ns.length <= sizeLine)
  (h : ∀ h', ObjM h' x dx C (fun y => if y = name then some v else mA y) -> Heap.SameBut dx s.heap h' -> Q () { s with heap := h', toks := s.toks + 2 }) :
  wpAny (model prog w) A (setAttr (.ref x) name v) Q E s := by
 obtain ⟨od, J, hl⟩ := I.look
 refine PySem.W.set_plain X J hs (PySem.W.osa_open (s := { s with toks := s.toks + 1 }) (r := none) X J hp ht fun b => ?_)
 obtain ⟨cd, hc, hd'⟩ := PySem.W.any_some hh
 have hx : s.heap.get? x = some ⟨.ref C, some dx, .plain, #[]⟩ := I.obj
 refine wpAny_bind (wpAny_pure (wpAny_bind (wpAny_bind (wpAny_loadPart hx (wpAny_bind (PySem.W.Looks.here (s := { s with toks := s.toks + 1 }) (PySem.W.looks_clsIn X hc) ?_))))))
 rw [hd']
 refine wpAny_pure (a := some dx) (wpAny_bind (wpAny_pure (wpAny_bind ?_)))
 refine wpAny_nsSet1 (s := { s with toks := s.toks + 1 }) I.ns fun h' hn2 hs2 => ?_
 obtain ⟨oD, esD, epD, hoD, hdD, hcD⟩ := hn2.count (PySem.Within.cons name v hw)
 refine wpAny_bind (wpAny_lookBehind hoD (by rw [hdD]; exact pastItsLine_dict (g1y hcD (by rw [g0d]; omega))) ?_)
 exact wpAny_pure (h _ ⟨(hs2.2 _ (Ne.symm I.ne)).trans I.obj, hn2, I.ne⟩ hs2)
theorem Kv {R : Result -> Shared -> Prop} {vs : List Value} {kw : List (Str × Value)} (X : K.In s.heap) (hm : PySem.W.makesIn K C = true)
  (hi : PySem.W.findIn K (.ref C) "__init__" = some (some (.ref f))) (hf : PySem.W.typeIn K (.ref f) = some (.type "function"))
  (h : codeAny (model prog w) (A.under (.builtin "type.__call__" ⟨.ref C :: vs, kw⟩)) (.call (.ref f) ⟨.ref (s.heap.objs.size + 1) :: vs, kw⟩) (PySem.W.InitBack (s.heap.objs.size + 1) R)
   { s with heap := (s.heap.push PySem.W.emptyDict).push (PySem.W.instObj C s.heap.objs.size) }) :
  codeAny (model prog w) A (.call (.ref C) ⟨vs, kw⟩) R s := by
 obtain ⟨hh, g, d, t, os⟩ := s
 exact PySem.W.make_core (PySem.W.makes_of X hm) (PySem.W.looks_findIn X hi) (fun self => PySem.W.bind_fn X self hf) (.inl rfl) h
end
def jE (f : Str) (v : V) : List (Str × V) -> List (Str × V)
 | [] => [(f, v)]
 | (g, x) :: r => if g = f then (g, v) :: r else (g, x) :: jE f v r
theorem yB (f g : Str) (v : V) : ∀ fs : List (Str × V), (jE f v fs).lookup g = if g = f then some v else fs.lookup g
 | [] => by
  show g1v g [(f, v)] = _
  by_cases h : g = f
  ·have hb : (g == f) = true := beq_iff_eq.mpr h
   simp only [g1v, hb, if_pos h]
  ·have hb : (g == f) = false := beq_eq_false_iff_ne.mpr h
   simp only [g1v, hb, if_neg h]
 | (k, x) :: r => by
  have ih := yB f g v r
  rw [show jE f v ((k, x) :: r) = (if k = f then (k, v) :: r else (k, x) :: jE f v r) from rfl]
  by_cases hk : k = f
  ·rw [if_pos hk]
   by_cases h : g = k
   ·have hb : (g == k) = true := beq_iff_eq.mpr h
    simp only [g1v, hb, if_pos (h.trans hk)]
   ·have hb : (g == k) = false := beq_eq_false_iff_ne.mpr h
    simp only [g1v, hb, if_neg (fun e : g = f => h (e.trans hk.symm))]
  ·rw [if_neg hk]
   by_cases h : g = k
   ·have hb : (g == k) = true := beq_iff_eq.mpr h
    simp only [g1v, hb, if_neg (fun e : g = f => hk (h.symm.trans e))]
   ·have hb : (g == k) = false := beq_eq_false_iff_ne.mpr h
    simp only [g1v, hb]
    exact ih
theorem kH (f : Str) (v : V) : ∀ fs : List (Str × V), f ∈ (jE f v fs).map (·.1) /\ ∀ g, g ∈ fs.map (·.1) -> g ∈ (jE f v fs).map (·.1)
 | [] => ⟨by simp [jE], fun g h => by simp at h⟩
 | (k, x) :: r => by
  obtain ⟨i1, i2⟩ := kH f v r
  rw [show jE f v ((k, x) :: r) = (if k = f then (k, v) :: r else (k, x) :: jE f v r) from rfl]
  by_cases hk : k = f
  ·rw [if_pos hk]
   subst hk
   exact ⟨by simp, fun g h => by simpa using h⟩
  ·rw [if_neg hk]
   refine ⟨?_, fun g h => ?_⟩
   ·rw [g0j]
    exact g0n _ i1
   ·rw [g0j] at h ⊢
    rcases g0m.mp h with e | e
    ·exact g0m.mpr (.inl e)
    ·exact g0n _ (i2 g e)
theorem kF (f : Str) (v : V) : ∀ fs : List (Str × V), (jE f v fs).length <= fs.length + 1
 | [] => by simp [jE]
 | (k, x) :: r => by
  have ih := kF f v r
  rw [show jE f v ((k, x) :: r) = (if k = f then (k, v) :: r else (k, x) :: jE f v r) from rfl]
  by_cases hk : k = f
  ·rw [if_pos hk, g0d, g0d]; omega
  ·rw [if_neg hk, g0d, g0d]; omega
theorem JG.some_of {v : V} {o : Option Value} (r : JG (some v) o) : ∃ u, o = some u /\ xK v u := by
 cases o with
 | none => exact (show False from r).elim
 | some u => exact ⟨u, rfl, r⟩
theorem JG.none_of {o : Option Value} (r : JG none o) : o = none := by
 cases o with
 | none => rfl
 | some u => exact (show False from r).elim
theorem Q3 {v : V} {u : Value} (r : xK v u) : PySem.W.handedIn u = true := by
 cases v with
 | non => cases (show u = Value.none from r); rfl
 | bl b => cases (show u = Value.bool b from r); rfl
 | int i => obtain ⟨t, e⟩ := (show ∃ t, u = Value.int i t from r); cases e; rfl
 | str x => obtain ⟨t, e⟩ := (show ∃ t, u = Value.str x t from r); cases e; rfl
 | byt b => obtain ⟨t, e⟩ := (show ∃ t, u = Value.bytes b t from r); cases e; rfl
 | flt b => obtain ⟨t, e⟩ := (show ∃ t, u = Value.float b t from r); cases e; rfl
 | ref a => cases (show u = Value.ref a from r); rfl
 | ty n => cases (show u = Value.type n from r); rfl
section
variable {P : Program} {w : World} {H H' : Hp} {h h' : Heap} {a C dx : Addr} {fs fs' : List (Str × V)}
theorem Wx (hok : HOk P w H h) (e : H a = some (.ins C dx fs)) : ∃ mA, ObjM h a dx C mA /\ (∀ f, JG (fs.lookup f) (mA f)) /\ PySem.Within mA (fs.map (·.1)) /\ fs.length <= 1000 /\ H dx = some (.own a) := by
 obtain ⟨d, z, ne, ob, mA, n, r, q⟩ := (show u5 P w H h a (.ins C dx fs) from hok a _ e)
 exact ⟨mA, ⟨ob, n, ne⟩, r, q, z, d⟩
end
structure Cls (K : W.Frag) (C : Addr) : Prop where
 pg : PySem.W.plainGet K C Str.empty = true
 hd : PySem.W.hasDictIn K C = true
 po : PySem.W.plainOver K C = true
 sa : PySem.W.findIn K (.ref C) "__setattr__" = some (some (.builtin "object.__setattr__"))
theorem Cls.get {K : W.Frag} {C : Addr} (c : Cls K C) (f : Str) : PySem.W.plainGet K C f = true := c.pg
def xx (K : W.Frag) (C : Addr) (f : Str) : Prop := PySem.W.findIn K (.ref C) f = some none
theorem xx.taker {K : W.Frag} {C : Addr} {f : Str} (n : xx K C f) : PySem.W.takerIn K C f = some none := by
 unfold PySem.W.takerIn
 rw [show PySem.W.findIn K (.ref C) f = some none from n]
 rfl
structure Meth (K : W.Frag) (C : Addr) (m : Str) (f : Addr) : Prop where
 at_ : PySem.W.findIn K (.ref C) m = some (some (.ref f))
 fn : PySem.W.isFn K (.ref f) = true
 kp : W.keepIn K (.ref f) = true
section
variable {X : Cx} {pins : List (Addr × Obj)} {σ : St} {H : Hp} {s : Shared} {a C dx : Addr} {fs : List (Str × V)} {f : Str} {v : V} {A : Around} {E : Value -> Shared -> Prop}
theorem Um {b : Bool} {Q : Value -> Shared -> Prop} (I : Inv X pins σ H s) (e : H a = some (.ins C dx fs)) (c : Cls X.K C) (n : xx X.K C f) (l : fs.lookup f = some v)
  (h : ∀ u s', Inv X pins σ H s' -> xK v u -> Q u s') : wpAny (model X.prog X.w) A (getAttr (.ref a) f b) Q E s := by
 obtain ⟨mA, O, r, _, _, _⟩ := Wx I.hok e
 obtain ⟨u, hu, ru⟩ := JG.some_of (v := v) (o := mA f) (by rw [<- l]; exact r f)
 exact HX I.kIn O (c.get f) c.hd n hu (Q3 ru) (h u _ (I.tok _) ru)
theorem jh {m : Str} {g : Addr} {pl : Sem Bool} {Q : Value × List Value -> Shared -> Prop} (I : Inv X pins σ H s) (e : H a = some (.ins C dx fs)) (c : Cls X.K C) (k : Meth X.K C m g) (l : fs.lookup m = none)
  (h : Q (.ref g, [.ref a]) s) : wpAny (model X.prog X.w) A (getMethod (.ref a) m pl) Q E s := by
 obtain ⟨mA, O, r, _, _, _⟩ := Wx I.hok e
 have hn : mA m = none := JG.none_of (by rw [<- l]; exact r m)
 exact KH I.kIn O (c.get m) k.at_ k.fn hn h
theorem VU {y : V} {u : Value} {Q : Unit -> Shared -> Prop} (I : Inv X pins σ H s) (e : H a = some (.ins C dx fs)) (c : Cls X.K C) (n : xx X.K C f) (hl : fs.length < 1000) (ry : xK y u)
  (h : ∀ s', Inv X pins σ (upd H a (.ins C dx (jE f y fs))) s' -> Q () s') : wpAny (model X.prog X.w) A (setAttr (.ref a) f u) Q E s := by
 obtain ⟨mA, O, r, wi, _, ho⟩ := Wx I.hok e
 have hz : (fs.map (·.1)).length <= sizeLine := by rw [g1l, sizeLine_eq]; omega
 refine GX I.kIn O c.sa c.po n.taker c.hd wi hz fun h' O' sb => h _ ?_
 have hd : ∃ o, h'.get? dx = some o := let ⟨o, _, _, e', _⟩ := O'.ns; ⟨o, e'⟩
 refine I.write (x := a) (e := dx) (by rw [e]; exact True.intro) (.inr ho) (fun b q hb z => (sb.2 b hb).trans z) hd ?_
 refine ⟨by rw [zw O.ne]; exact ho, ?_, O.ne, O'.obj, _, O'.ns, fun g => ?_, fun g hg => ?_⟩
 ·have := kF f y fs; omega
 ·show JG ((jE f y fs).lookup g) (if g = f then some u else mA g)
  rw [yB]
  by_cases q : g = f
  ·rw [if_pos q, if_pos q]; exact ry
  ·rw [if_neg q, if_neg q]; exact r g
 ·by_cases q : g = f
  ·rw [q]; exact (kH f y fs).1
  ·refine (kH f y fs).2 g (wi g fun z => hg ?_)
   show (if g = f then some u else mA g) = none
   rw [if_neg q]; exact z
theorem Inv.made (I : Inv X pins σ H s) : Inv X pins σ (upd (upd H s.heap.objs.size (.own (s.heap.objs.size + 1))) (s.heap.objs.size + 1) (.ins C s.heap.objs.size []))
  { s with heap := (s.heap.push PySem.W.emptyDict).push (PySem.W.instObj C s.heap.objs.size) } := by
 have e1 : (s.heap.push PySem.W.emptyDict).get? s.heap.objs.size = some PySem.W.emptyDict := Heap.get?_push_size s.heap rfl
 have e2 : ((s.heap.push PySem.W.emptyDict).push (PySem.W.instObj C s.heap.objs.size)).get? (s.heap.objs.size + 1) = some (PySem.W.instObj C s.heap.objs.size) := by
  have := Heap.get?_push_size (s.heap.push PySem.W.emptyDict) (o := PySem.W.instObj C s.heap.objs.size) rfl
  rwa [Heap.size_push] at this
 have e3 : (s.heap.push PySem.W.emptyDict).Ns s.heap.objs.size (fun _ => none) := ⟨PySem.W.emptyDict, #[], _, e1, rfl, (fun e he => absurd he (by simp)), fun _ => rfl⟩
 have I1 := I.laid (a := s.heap.objs.size) (o := .own (s.heap.objs.size + 1)) (h' := s.heap.push PySem.W.emptyDict) (t' := s.toks) (fun b u q => Heap.get?_push_of_some _ q) (g0o _) ⟨_, e1⟩
 refine I1.laid (a := s.heap.objs.size + 1) (o := .ins C s.heap.objs.size []) (t' := s.toks) (fun b u q => Heap.get?_push_of_some _ q) (Nat.le_of_eq (Heap.size_push _ _)) ?_
 have ne : s.heap.objs.size ≠ s.heap.objs.size + 1 := g1b (g2m _)
 refine ⟨by rw [zw ne, zz], g2e _, ne, e2, fun _ => none, (Heap.Ns1.of_empty e3).at fun o q => Heap.get?_push_of_some _ q, fun _ => True.intro, fun y hy => absurd rfl hy⟩
theorem Bp {prog : Program} {w : World} {env : Env} {e : Expr} {f : Str} {pos : Pos} {s : Shared} {Q : Value -> Shared -> Prop} (hb : attributeBase e f env (eval e env) = eval e env)
  (h : wpAny (model prog w) A (eval e env) (fun o s₁ => wpAny (model prog w) A (getAttr o f true) Q E s₁) E s) : wpAny (model prog w) A (eval (.Attribute e f pos) env) Q E s :=
 Attribute_any_ h (by rw [arm_eval_Attribute, hb])
end
def My (K : W.Frag) (ta : TE) (f : Str) : TE := fun σ H Q => ta σ H fun x H1 => ∃ a C dx fs v, x = .ref a /\ H1 a = some (.ins C dx fs) /\ Cls K C /\ xx K C f /\ fs.lookup f = some v /\ Q v H1
def MG (K : W.Frag) (ta tv : TE) (f : Str) : TS := fun D σ H => tv σ H fun y H1 => ta σ H1 fun x H2 => ∃ a C dx fs, x = .ref a /\ H2 a = some (.ins C dx fs) /\ Cls K C /\ xx K C f /\ fs.length < 1000 ∧
 D.nx σ (upd H2 a (.ins C dx (jE f y fs)))
section
variable {X : Cx} {o e value : Expr} {f : Str} {pos pos' tpos : Pos} {ta tv : TE}
theorem qc (he : PE X e ta) (hb : attributeBase e f X.env (eval e X.env) = eval e X.env) : PE X (.Attribute e f pos) (My X.K ta f) := by
 intro pins s σ H Q I h
 refine Bp hb (thn (he pins s σ H _ I h) fun u s1 ⟨x, H1, I1, rx, a, C, dx, fs, v, ex, ea, c, n, l, q⟩ => ?_)
 subst ex
 obtain rfl : u = Value.ref a := rx
 exact Um I1 ea c n l fun u' s2 I2 ru => ⟨v, H1, I2, ru, q⟩
theorem Vc (ha : PE X o ta) (hv : PE X value tv) (hs : swapsWith value (some (.Attribute o f pos')) pos.line X.env = pure false) : PS X (.Assign [.Attribute o f pos'] value pos) (MG X.K ta tv f) := by
 intro pins s σ H D I h
 refine plainObj_wpAny_Assign_Attribute (thn (hv pins s σ H _ I h) fun u s1 ⟨y, H1, I1, ry, q⟩ => thn (ha pins s1 σ H1 _ I1 q) fun ov s2 ⟨x, H2, I2, rx, a, C, dx, fs, ex, ea, c, n, l, q2⟩ => ?_) hs
 subst ex
 obtain rfl : ov = Value.ref a := rx
 exact VU I2 ea c n l ry fun s3 I3 => ⟨σ, _, I3, q2⟩
theorem HJ {pl : Sem Bool} {m : Str} {apos : Pos} {args : List Expr} {pins : List (Addr × Obj)} {s : Shared} {σ : St} {H : Hp} {Q : Value -> Shared -> Prop} {te : TE} (he : PE X e te) (I : Inv X pins σ H s)
  (h : te σ H fun x H1 => ∃ a C dx fs g, x = .ref a /\ H1 a = some (.ins C dx fs) /\ Cls X.K C /\ Meth X.K C m g /\ fs.lookup m = none ∧
   ∀ s1, Inv X pins σ H1 s1 -> wpAny (model X.prog X.w) X.A (callWith pos (.ref g) [.ref a] (backTo pos (starEach args X.env)) (backToKw pos (keywordEach [] X.env))) Q X.xe s1)
  (ht : eval (.Call (.Attribute e m apos) args [] pos) X.env = (do
   let ov ← eval e X.env
   standAt apos.atName
   let (f, first) ← holding [ov] (getMethod ov m pl)
   callWith pos f first (backTo pos (starEach args X.env)) (backToKw pos (keywordEach [] X.env)))) :
  wpAny (model X.prog X.w) X.A (eval (.Call (.Attribute e m apos) args [] pos) X.env) Q X.xe s := by
 refine PySem.W.methodCall_KW (pl := pl) (thn (he pins s σ H _ I h) fun u s1 ⟨x, H1, I1, rx, a, C, dx, fs, g, ex, ea, c, k, l, q⟩ => ?_) ht
 subst ex
 obtain rfl : u = Value.ref a := rx
 exact jh I1 ea c k l (q s1 I1)
end
section
variable {X : Cx} {pins : List (Addr × Obj)} {σ : St} {H : Hp} {s : Shared} {A : Around} {E : Value -> Shared -> Prop} {Q : Value -> Shared -> Prop} {c : Value} {b : Bool}
end
structure Room (k : Nat) (A : Around) : Prop where
 hd : A.handled = none
 dp : A.depth + 3 * k + 5 < recursionLimit
 un : A.units + 16 * k + 200 < cLine
theorem Room.mono {j k : Nat} {A : Around} (r : Room k A) (h : j <= k) : Room j A := ⟨r.hd, by have := r.dp; omega, by have := r.un; omega⟩
theorem Room.deeper {k : Nat} {A : Around} (r : Room (k + 1) A) (env : Env) : Room k (A.deeper env) :=
 ⟨r.hd, by have := r.dp; show A.depth + 1 + 3 * k + 5 < _; omega, by have := r.un; show A.units + 3 + 16 * k + 200 < _; omega⟩
theorem Ui {A : Around} {C : Addr} {us : List Value} {kw : List (Str × Value)} : (A.under (.builtin "type.__call__" ⟨.ref C :: us, kw⟩)).depth = A.depth + 1 := by
 first | rfl | simp [Around.under, Code.weight, Code.isCreation, Code.isGuard, Code.isCaller, Code.frames, Code.isFrame, guardIds]
theorem Uh {A : Around} {C : Addr} {us : List Value} {kw : List (Str × Value)} : (A.under (.builtin "type.__call__" ⟨.ref C :: us, kw⟩)).units = A.units + 1 := by
 first | rfl | simp [Around.under, Code.cUnits, Code.frames, Code.isFrame]
theorem Room.make {k : Nat} {A : Around} (r : Room (k + 1) A) (C : Addr) (us : List Value) (kw : List (Str × Value)) : Room k (A.under (.builtin "type.__call__" ⟨.ref C :: us, kw⟩)) :=
 ⟨r.hd, by have := r.dp; rw [Ui]; omega, by have := r.un; rw [Uh]; omega⟩
theorem Room.depth {k : Nat} {A : Around} (r : Room k A) : A.depth < recursionLimit := by have := r.dp; omega
def FK : TA := fun _ H Q => Q [] H
def DK (ta : TE) (tr : TA) : TA := fun σ H Q => ta σ H fun x H1 => tr σ H1 fun xs H2 => Q (x :: xs) H2
section
variable {X : Cx} {e : Expr} {es : List Expr} {te : TE} {t : TA} {pos : Pos}
theorem xb : PA X [] FK := fun _ _ _ _ H Q I h => Calls.spliced_nil ⟨[], H, I, .nil, h⟩
theorem zM (ha : PE X e te) (hr : PA X es t) (hs : starEach (e :: es) X.env = (false, eval e X.env) :: starEach es X.env := by rfl) : PA X (e :: es) (DK te t) := by
 intro pos pins s σ H Q I h
 rw [hs]
 show wpAny _ _ (spliced ((false, eval e X.env) :: backTo pos (starEach es X.env))) _ _ s
 refine Calls.spliced_cons (thn (ha pins s σ H _ I h) fun u s1 ⟨x, H1, I1, r1, q1⟩ => ?_)
 exact thn (hr pos pins s1 σ H1 _ I1 q1) fun us s2 ⟨xs, H2, I2, r2, q2⟩ => ⟨x :: xs, H2, I2, .cons r1 r2, q2⟩
def Mq (t : TA) : TE := fun σ H Q => t σ H fun xs H1 => xs.length <= sizeLine /\ ∀ p, H1 p = none -> Q (.ref p) (upd H1 p (.tup xs))
def Mu (t : TA) : TE := fun σ H Q => t σ H fun xs H1 => xs.length <= sizeLine /\ ∀ p, H1 p = none -> Q (.ref p) (upd H1 p (.lst xs))
theorem Cn {x1} (h : PA X es t) : PE X (.Tuple es x1 pos) (Mq t) := by
 intro pins s σ H Q I hq
 refine wpAny_Tuple_spliced (thn (h pos pins s σ H _ I hq) fun us s1 ⟨xs, H1, I1, r, z, q⟩ => ⟨by rw [<- r.length]; exact z, ?_⟩)
 have hf : H1 s1.heap.objs.size = none := I1.hok.fresh (g0o _)
 refine ⟨.ref s1.heap.objs.size, upd H1 s1.heap.objs.size (.tup xs), I1.laid (t' := s1.toks) (fun b u e => Heap.get?_push_of_some _ e) (g0o _) ?_, rfl, q _ hf⟩
 exact ⟨z, us, r, ⟨_, Heap.get?_push_size _ rfl, rfl, _, rfl⟩⟩
theorem Gq (h : PA X es t) : PE X (.List es pos) (Mu t) := by
 intro pins s σ H Q I hq
 refine wpAny_List_spliced (thn (h pos pins s σ H _ I hq) fun us s1 ⟨xs, H1, I1, r, z, q⟩ => ⟨by rw [<- r.length]; exact z, ?_⟩)
 have hf : H1 s1.heap.objs.size = none := I1.hok.fresh (g0o _)
 refine ⟨.ref s1.heap.objs.size, upd H1 s1.heap.objs.size (.lst xs), I1.laid (t' := s1.toks) (fun b u e => Heap.get?_push_of_some _ e) (g0o _) ?_, rfl, q _ hf⟩
 exact ⟨z, us, 0, r, Heap.get?_push_size _ rfl⟩
end
abbrev Sp := List V -> Hp -> VK -> XK -> Prop
abbrev CXT := List Env -> Hp -> Shared -> XK -> Value -> Shared -> Prop
structure Env0 (P : Program) (w : World) (K : W.Frag) (mg : Str -> Option Value) (base : Heap) (A : Around) (outer : List Env) (s : Shared) (H : Hp) : Prop where
 frames : A.frames = some outer
 mod : Mod K mg base
 bs : ∀ b o, base.get? b = some o -> s.heap.get? b = some o /\ H b = none
 bsz : base.objs.size <= s.heap.objs.size
 funs : s.heap.FunFrames base outer
 frf : ∀ b ∈ frs outer, H b = none
 hok : HOk P w H s.heap
 bare : AllBare s.gens
def CE (outer : List Env) (P : Program) (w : World) (H : Hp) (s : Shared) (Q : VK) (u : Value) (s' : Shared) : Prop :=
 ∃ v H', s'.os = s.os /\ AllBare s'.gens /\ Un (frs outer) [] H H' s.heap s'.heap /\ HOk P w H' s'.heap /\ xK v u /\ Q v H'
def CR (CX : CXT) (outer : List Env) (P : Program) (w : World) (H : Hp) (s : Shared) (Q : VK) (E : XK) (r : Result) (s' : Shared) : Prop :=
 match r with
 | .ok (.ret u) => CE outer P w H s Q u s'
 | .ok _ => False
 | .error e => CX outer H s E e s'
structure FnOk (P : Program) (w : World) (K : W.Frag) (mg : Str -> Option Value) (base : Heap) (CX : CXT) (k : Nat) (f : Addr) (fd : FuncData) (ps : List Str) (sp : Sp) : Prop where
 len : ∀ vs H Q E, sp vs H Q E -> vs.length = ps.length
 run : ∀ (A : Around) (outer : List Env) (s : Shared) (H : Hp) (args : Args) (us : List Value) (vs : List V) (Q : VK) (E : XK), Room k A -> Env0 P w K mg base A outer s H -> BindsTo s fd args (ps.zip us) -> xk vs us -> sp vs H Q E →
  codeAny (model P w) A (.call (.ref f) args) (CR CX outer P w H s Q E) s
theorem FnOk.mono {P : Program} {w : World} {K : W.Frag} {mg : Str -> Option Value} {base : Heap} {CX : CXT} {j k : Nat} {f : Addr} {fd : FuncData} {ps : List Str} {sp : Sp} (F : FnOk P w K mg base CX j f fd ps sp) (h : j <= k) :
  FnOk P w K mg base CX k f fd ps sp := ⟨F.len, fun A outer s H args us vs Q E hr => F.run A outer s H args us vs Q E (hr.mono h)⟩
theorem Env0.make {P : Program} {w : World} {K : W.Frag} {mg : Str -> Option Value} {base : Heap} {A : Around} {outer : List Env} {s : Shared} {H : Hp} (e : Env0 P w K mg base A outer s H) (C : Addr) (us : List Value) (kw : List (Str × Value)) :
  Env0 P w K mg base (A.under (.builtin "type.__call__" ⟨.ref C :: us, kw⟩)) outer s H := ⟨by first | exact e.frames | (simpa [Around.under, Code.envs, Code.isFrame, pushEnvs] using e.frames), e.mod, e.bs, e.bsz, e.funs, e.frf, e.hok, e.bare⟩
section
variable {X : Cx} {pins : List (Addr × Obj)} {σ : St} {H : Hp} {s s' : Shared}
theorem Inv.env0 (I : Inv X pins σ H s) : Env0 X.prog X.w X.K X.mg X.base X.A X.stack s H :=
 ⟨I.ok.frames, I.ok.mod, I.bs, g1y I.ok.bsz I.sz, I.stack, I.stkFree, I.hok, I.bare⟩
theorem Inv.after {Q : VK} {u : Value} (I : Inv X pins σ H s) (h : CE X.stack X.prog X.w H s Q u s') : EP X pins σ Q u s' := by
 obtain ⟨v, H', os, bare, un, hok, r, q⟩ := h
 obtain ⟨hh, g, d, t, os'⟩ := s'
 obtain rfl : os' = s.os := os
 exact ⟨v, H', I.call (h' := hh) (g' := g) (d' := d) (t' := t) (ch := []) un hok bare (fun b z => absurd z (by simp)), r, q⟩
end
def DL (sp : Sp) (dvs : List V) (E : XK) (t : TA) : TE := fun σ H Q => t σ H fun vs H1 => sp (vs ++ dvs) H1 Q E
def BN (C : Addr) (m : Str) (sp : Sp) (dvs : List V) (E : XK) (ta : TE) (t : TA) : TE := fun σ H Q => ta σ H fun x H1 => ∃ a dx fs, x = .ref a /\ H1 a = some (.ins C dx fs) /\ fs.lookup m = none ∧
 t σ H1 fun vs H2 => sp (x :: (vs ++ dvs)) H2 Q E
def DF (C : Addr) (sp : Sp) (dvs : List V) (E : XK) (t : TA) : TE := fun σ H Q => t σ H fun vs H1 => ∀ x dx, H1 x = none -> H1 dx = none -> dx ≠ x →
 sp (.ref x :: (vs ++ dvs)) (upd (upd H1 dx (.own x)) x (.ins C dx [])) (fun v H2 => v = .non /\ Q (.ref x) H2) E
def uo (K : W.Frag) (fd : FuncData) (ps : List Str) (ds : List Value) : Prop :=
 ∀ (s : Shared) (us : List Value), K.In s.heap -> (us ++ ds).length = ps.length -> BindsTo s fd ⟨us, []⟩ (ps.zip (us ++ ds))
theorem uo.all {K : W.Frag} {fd : FuncData} {ps : List Str} (h : ∀ us : List Value, us.length = ps.length -> bindArgs fd ⟨us, []⟩ = pure (ps.zip us)) : uo K fd ps [] := fun s us _ hl => by
 rw [g0t] at hl ⊢
 exact .of_eq (h us hl)
def jO (CX : CXT) (X : Cx) (E : XK) : Prop := ∀ (pins : List (Addr × Obj)) (σ : St) (H : Hp) (s : Shared) (e : Value) (s' : Shared), Inv X pins σ H s -> CX X.stack H s E e s' -> X.xe e s'
section
variable {X : Cx} {CX : CXT} {k : Nat} {f C : Addr} {fd : FuncData} {ps : List Str} {sp : Sp} {dvs : List V} {ds : List Value} {E : XK} {x m : Str} {p pos apos : Pos} {e o : Expr} {es : List Expr} {ta : TE} {t : TA}
theorem U7 {pins : List (Addr × Obj)} {σ : St} {H : Hp} {s : Shared} {Q : VK} {us : List Value} {vs : List V} (F : FnOk X.prog X.w X.K X.mg X.base CX k f fd ps sp) (hr : Room k X.A) (hb : uo X.K fd ps ds) (hd : xk dvs ds) (hx : jO CX X E)
  (I : Inv X pins σ H s) (r : xk vs us) (h : sp (vs ++ dvs) H Q E) : wpAny (model X.prog X.w) X.A (call (.ref f) us) (EP X pins σ Q) X.xe s := by
 have r2 : xk (vs ++ dvs) (us ++ ds) := r.append hd
 have hl : (us ++ ds).length = ps.length := by rw [<- r2.length]; exact F.len _ _ _ _ h
 refine wpAny_call (codeAny_mono (F.run X.A X.stack s H ⟨us, []⟩ (us ++ ds) (vs ++ dvs) Q E hr I.env0 (hb s us I.kIn hl) r2 h) fun r s' hq => ?_)
 cases r with
 | error e => exact hx pins σ H s e s' I hq
 | ok fl =>
  cases fl with
  | ret u => exact I.after hq
  | next => exact False.elim hq
  | brk => exact False.elim hq
  | cont => exact False.elim hq
theorem kr (F : FnOk X.prog X.w X.K X.mg X.base CX k f fd ps sp) (hr : Room k X.A) (hg : Gl X x) (hm : X.mg x = some (.ref f)) (hk : W.keepIn X.K (.ref f) = true) (hb : uo X.K fd ps ds) (hd : xk dvs ds) (hx : jO CX X E)
  (ha : PA X (e :: es) t) (hdb : (x == ("__debug__" : Str)) = false := by decide) (he : starEach (e :: es) X.env = (false, eval e X.env) :: starEach es X.env := by rfl) (hpl : (backTo pos (starEach es X.env)).any (·.1) = false := by rfl) :
  PE X (.Call (.Name x p) (e :: es) [] pos) (DL sp dvs E t) := by
 intro pins s σ H Q I h
 refine wpAny_Call_Name_kw (Wv I hg hm ?_ hdb)
 refine PySem.W.callWith_K (h₀ := X.base) I.ok.mod.kin hk (thn (ha pos pins s σ H _ I h) fun us s1 ⟨vs, H1, I1, r, q⟩ => ⟨I1.kIn, ?_⟩) he hpl
 exact U7 F hr hb hd hx I1 r q
theorem kq {pl : Sem Bool} (he : PE X o ta) (c : Cls X.K C) (hm : Meth X.K C m f) (F : FnOk X.prog X.w X.K X.mg X.base CX k f fd ps sp) (hr : Room k X.A) (hb : uo X.K fd ps ds) (hd : xk dvs ds) (hx : jO CX X E) (ha : PA X (e :: es) t)
  (hst : starEach (e :: es) X.env = (false, eval e X.env) :: starEach es X.env := by rfl) (hpl : (backTo pos (starEach es X.env)).any (·.1) = false := by rfl)
  (ht : eval (.Call (.Attribute o m apos) (e :: es) [] pos) X.env = (do
   let ov ← eval o X.env
   standAt apos.atName
   let (f, first) ← holding [ov] (getMethod ov m pl)
   callWith pos f first (backTo pos (starEach (e :: es) X.env)) (backToKw pos (keywordEach [] X.env))) := by rfl) :
  PE X (.Call (.Attribute o m apos) (e :: es) [] pos) (BN C m sp dvs E ta t) := by
 intro pins s σ H Q I h
 refine PySem.W.methodCall_KW (pl := pl) (thn (he pins s σ H _ I h) fun u s1 ⟨x, H1, I1, rx, a, dx, fs, ex, ea, l, q⟩ => ?_) ht
 subst ex
 obtain rfl : u = Value.ref a := rx
 refine jh I1 ea c hm l ?_
 refine PySem.W.callWith_K (first := [.ref a]) (h₀ := X.base) I.ok.mod.kin hm.kp (thn (ha pos pins s1 σ H1 _ I1 q) fun us s2 ⟨vs, H2, I2, r, q2⟩ => ⟨I2.kIn, ?_⟩) hst hpl
 exact U7 (us := .ref a :: us) (vs := .ref a :: vs) F hr hb hd hx I2 (.cons rfl r) q2
theorem Ka {pl : Sem Bool} (he : PE X o ta) (c : Cls X.K C) (hm : Meth X.K C m f) (F : FnOk X.prog X.w X.K X.mg X.base CX k f fd ps sp) (hr : Room k X.A) (hb : uo X.K fd ps ds) (hd : xk dvs ds) (hx : jO CX X E)
  (ht : eval (.Call (.Attribute o m apos) [] [] pos) X.env = (do
   let ov ← eval o X.env
   standAt apos.atName
   let (f, first) ← holding [ov] (getMethod ov m pl)
   callWith pos f first (backTo pos (starEach [] X.env)) (backToKw pos (keywordEach [] X.env))) := by rfl) :
  PE X (.Call (.Attribute o m apos) [] [] pos) (BN C m sp dvs E ta FK) := by
 intro pins s σ H Q I h
 refine PySem.W.methodCall_KW (pl := pl) (thn (he pins s σ H _ I h) fun u s1 ⟨x, H1, I1, rx, a, dx, fs, ex, ea, l, q⟩ => ?_) ht
 subst ex
 obtain rfl : u = Value.ref a := rx
 refine jh I1 ea c hm l ?_
 exact PySem.W.callWith_K0 (first := [.ref a]) I1.kIn hm.kp (U7 (us := [.ref a]) (vs := [.ref a]) F hr hb hd hx I1 (.cons rfl .nil) q)
structure Mk (K : W.Frag) (C f : Addr) : Prop where
 makes : PySem.W.makesIn K C = true
 init : PySem.W.findIn K (.ref C) "__init__" = some (some (.ref f))
 fn : PySem.W.isFn K (.ref f) = true
 kp : W.keepIn K (.ref C) = true
theorem J3 {pins : List (Addr × Obj)} {σ : St} {H : Hp} {s : Shared} {Q : VK} {us : List Value} {vs : List V} (M : Mk X.K C f) (F : FnOk X.prog X.w X.K X.mg X.base CX k f fd ps sp) (hr : Room (k + 1) X.A) (hb : uo X.K fd ps ds) (hd : xk dvs ds)
  (hx : jO CX X E) (I : Inv X pins σ H s) (r : xk vs us)
  (h : ∀ x dx, H x = none -> H dx = none -> dx ≠ x -> sp (.ref x :: (vs ++ dvs)) (upd (upd H dx (.own x)) x (.ins C dx [])) (fun v H2 => v = .non /\ Q (.ref x) H2) E) :
  wpAny (model X.prog X.w) X.A (call (.ref C) us) (EP X pins σ Q) X.xe s := by
 have hq := h (s.heap.objs.size + 1) s.heap.objs.size (I.hok.fresh (Nat.le_succ _)) (I.hok.fresh (g0o _)) (g1b (g2m _))
 have I2 := Inv.made (C := C) I
 have r2 : xk (V.ref (s.heap.objs.size + 1) :: (vs ++ dvs)) (Value.ref (s.heap.objs.size + 1) :: (us ++ ds)) := .cons rfl (r.append hd)
 have hl : (Value.ref (s.heap.objs.size + 1) :: us ++ ds).length = ps.length := by
  have e := r2.length
  rw [F.len _ _ _ _ hq] at e
  exact e.symm
 refine wpAny_call (Kv (f := f) I.kIn M.makes M.init (beq_iff_eq.mp M.fn) (codeAny_mono (F.run _ X.stack _ _ ⟨Value.ref (s.heap.objs.size + 1) :: us, []⟩ (Value.ref (s.heap.objs.size + 1) :: (us ++ ds)) _ _ E (hr.make C us [])
  (I2.env0.make C us []) (hb _ (Value.ref (s.heap.objs.size + 1) :: us) I2.kIn hl) r2 hq) fun r s' hq' => ?_))
 cases r with
 | error e => exact hx pins σ _ _ e s' I2 hq'
 | ok fl =>
  cases fl with
  | ret u =>
   obtain ⟨v, H', I3, rv, ev, q3⟩ := I2.after hq'
   subst ev
   exact ⟨rv, ⟨V.ref (s.heap.objs.size + 1), H', I3, rfl, q3⟩⟩
  | next => exact False.elim hq'
  | brk => exact False.elim hq'
  | cont => exact False.elim hq'
theorem Hg (M : Mk X.K C f) (F : FnOk X.prog X.w X.K X.mg X.base CX k f fd ps sp) (hr : Room (k + 1) X.A) (hg : Gl X x) (hm : X.mg x = some (.ref C)) (hb : uo X.K fd ps ds) (hd : xk dvs ds) (hx : jO CX X E)
  (ha : PA X (e :: es) t) (hdb : (x == ("__debug__" : Str)) = false := by decide) (he : starEach (e :: es) X.env = (false, eval e X.env) :: starEach es X.env := by rfl) (hpl : (backTo pos (starEach es X.env)).any (·.1) = false := by rfl) :
  PE X (.Call (.Name x p) (e :: es) [] pos) (DF C sp dvs E t) := by
 intro pins s σ H Q I h
 refine wpAny_Call_Name_kw (Wv I hg hm ?_ hdb)
 refine PySem.W.callWith_K (h₀ := X.base) I.ok.mod.kin M.kp (thn (ha pos pins s σ H _ I h) fun us s1 ⟨vs, H1, I1, r, q⟩ => ⟨I1.kIn, ?_⟩) he hpl
 exact J3 M F hr hb hd hx I1 r q
end
section
variable {X : Cx} {CX : CXT} {k : Nat} {f C : Addr} {fd : FuncData} {ps ks : List Str} {sp : Sp} {E : XK} {x m : Str} {p pos apos kpos : Pos} {e o : Expr} {es : List Expr} {kws : List Keyword} {te ta : TE} {t tk : TA} {nm : Option Str}
variable {g : List Value -> List Value -> List Value} {gV : List V -> List V -> List V}
end
structure FnScope (N P : List Str) (sc : Scope) : Prop where
 kind : sc.kind = .function
 co : sc.isCoroutine = false
 gen : sc.isGenerator = false
 nd : N.Nodup
 pre : N.take P.length = P
 par : ∀ x ∈ P, sc.names.lookup x = some .local \/ sc.names.lookup x = some .cell
 nofree : ∀ y ∈ sc.names, y.2 ≠ .free
theorem XZ {kindOf : Str -> Option NameKind} {x : Str} : ∀ {binds : List (Str × Value)} {m : Str -> Option Value}, (∀ v, (x, v) ∉ binds) -> bindL kindOf binds m x = m x
 | [], _, _ => rfl
 | (n, v) :: r, m, h => by
  unfold bindL
  rw [XZ fun w hw => h w (g0n _ hw)]
  split
  ·have : x ≠ n := by rintro rfl; exact h v g0s
   simp [this]
  ·rfl
theorem X2 {kindOf : Str -> Option NameKind} {x : Str} : ∀ {binds : List (Str × Value)} {m : Str -> Option Value}, (∀ v, (x, v) ∉ binds) -> bindC kindOf binds m x = m x
 | [], _, _ => rfl
 | (n, v) :: r, m, h => by
  unfold bindC
  rw [X2 fun w hw => h w (g0n _ hw)]
  split
  ·rfl
  ·have : x ≠ n := by rintro rfl; exact h v g0s
   simp [this]
theorem X1 {kindOf : Str -> Option NameKind} {x : Str} {v : Value} : ∀ {P : List Str} {vs : List Value} {i : Nat} {m : Str -> Option Value}, P.Nodup -> P[i]? = some x -> vs[i]? = some v -> kindOf x = some .local →
  bindL kindOf (P.zip vs) m x = some v
 | [], _, _, _, _, h, _, _ => by simp at h
 | _ :: _, [], _, _, _, _, h, _ => by simp at h
 | p :: P, w :: vs, 0, m, nd, h1, h2, hk => by
  simp at h1 h2; subst h1; subst h2
  show bindL kindOf ((p, w) :: P.zip vs) m p = _
  unfold bindL
  rw [XZ fun v hv => (List.nodup_cons.mp nd).1 (List.of_mem_zip hv).1, if_pos hk]
  simp
 | p :: P, w :: vs, i + 1, m, nd, h1, h2, hk => by
  show bindL kindOf ((p, w) :: P.zip vs) m x = _
  unfold bindL
  exact X1 (i := i) (List.nodup_cons.mp nd).2 (by simpa using h1) (by simpa using h2) hk
theorem X3 {kindOf : Str -> Option NameKind} {x : Str} {v : Value} : ∀ {P : List Str} {vs : List Value} {i : Nat} {m : Str -> Option Value}, P.Nodup -> P[i]? = some x -> vs[i]? = some v -> kindOf x ≠ some .local →
  bindC kindOf (P.zip vs) m x = some v
 | [], _, _, _, _, h, _, _ => by simp at h
 | _ :: _, [], _, _, _, _, h, _ => by simp at h
 | p :: P, w :: vs, 0, m, nd, h1, h2, hk => by
  simp at h1 h2; subst h1; subst h2
  show bindC kindOf ((p, w) :: P.zip vs) m p = _
  unfold bindC
  rw [X2 fun v hv => (List.nodup_cons.mp nd).1 (List.of_mem_zip hv).1, if_neg hk]
  simp
 | p :: P, w :: vs, i + 1, m, nd, h1, h2, hk => by
  show bindC kindOf ((p, w) :: P.zip vs) m x = _
  unfold bindC
  exact X3 (i := i) (List.nodup_cons.mp nd).2 (by simpa using h1) (by simpa using h2) hk
def start (N : List Str) (vs : List V) : St := vs.map some ++ g0i (N.length - vs.length) none
def K1 (CX : CXT) (P : Program) (w : World) (K : W.Frag) (mg : Str -> Option Value) (base : Heap) (N : List Str) (qual : Str) (scope : Scope) (f : Addr) (cd : Value) (A : Around) (outer : List Env) (s : Shared) (H : Hp) (E : XK) : Cx where
 prog := P
 w := w
 K := K
 mg := mg
 base := base
 A := A.deeper (envOfC qual scope s.heap.objs.size f cd)
 N := N
 s₀ := s
 H₀ := H
 env := envOfC qual scope s.heap.objs.size f cd
 outer := outer
 stack := envOfC qual scope s.heap.objs.size f cd :: outer
 ex := []
 calm := true
 fn := fun _ => true
 pn := []
 xe := fun e s' => wpAny (model P w) (A.deeper (envOfC qual scope s.heap.objs.size f cd)) (leaving (envOfC qual scope s.heap.objs.size f cd) e) (fun _ s'' => CX outer H s E e s'') (fun e' s'' => CX outer H s E e' s'') s'
theorem VB {sc : Scope} {n : Nat} {x : Str} (h : sc.names.lookup x = some .cell) : ∃ c, (cellsFrom n sc.names []).lookup x = some c := by
 have q := PySem.W.cellsFrom_some sc.names n [] (.inl h)
 exact Option.isSome_iff_exists.mp q
theorem QX {CX : CXT} {P : Program} {w : World} {K : W.Frag} {mg : Str -> Option Value} {base : Heap} {N ps : List Str} {qual : Str} {scope : Scope} {f : Addr} {cd : Value} {A : Around} {outer : List Env} {s s1 : Shared} {H : Hp} {E : XK} {us : List Value} {vs : List V}
  (S : FnScope N ps scope) (hd : A.handled = none) (e0 : Env0 P w K mg base A outer s H) (hl : vs.length = ps.length) (r : xk vs us)
  (x : InCallC s s.heap.objs.size (bindL (envOfC qual scope s.heap.objs.size f cd).kindOf (ps.zip us) fun _ => none) (cellsFrom (s.heap.objs.size + 1) scope.names []) (bindC (envOfC qual scope s.heap.objs.size f cd).kindOf (ps.zip us) fun _ => none) s1) :
  Inv (K1 CX P w K mg base N qual scope f cd A outer s H E) [] (start N vs) H s1 := by
 have hpl : ps.length <= N.length := by have := congrArg g2u S.pre; rw [g1c] at this; omega
 obtain ⟨h1, tk, rfl, hk⟩ := x.done
 have noA : ∀ b : Addr, b ∉ (K1 CX P w K mg base N qual scope f cd A outer s H E).ex := fun b z => absurd (show b ∈ ([] : List Addr) from z) (by simp)
 refine ⟨⟨e0.mod, S.kind, rfl, rfl, g0o _, fun y z c h1 h2 => ?_, fun y hy => ?_, fun y c _ h => ?_, fun _ => hd, Around.frames_deeper e0.frames, .inr ⟨rfl, rfl⟩, fun b z => absurd z (noA b), e0.bs, e0.bsz, fun b _ _ => noA b, fun b z => absurd z (noA b), e0.funs, e0.frf⟩,
  rfl, e0.bare, Un.kept hk, ⟨_, x.toInCall.ns, fun i y v h1 h2 h3 => ?_⟩, fun y c h => ⟨_, x.cell y c h⟩, e0.hok.fresh (g0o _), fun y c h => ?_, fun p hp => absurd (show p ∈ ([] : List (Addr × Obj)) from hp) (by simp), e0.hok.kept hk, ?_⟩
 ·exact name_of_addr x.apart (PySem.mem_of_lookup h1) (PySem.mem_of_lookup h2)
 ·have hy : scope.names.lookup y = some .cell \/ scope.names.lookup y = some .free := hy
  rcases hy with hy | hy
  ·exact VB hy
  ·exact absurd rfl (S.nofree _ (PySem.mem_of_lookup hy))
 ·exact g2t (x.above y c (PySem.mem_of_lookup h))
 ·have hi : i < vs.length := by
   unfold start at h2
   by_cases hi : i < vs.length
   ·exact hi
   ·rw [g0z (by simpa using hi)] at h2
    rw [g1u] at h2
    split at h2 <;> cases h2
  have ha : vs[i]? = some v := by
   unfold start at h2
   rw [g1i (by simpa using hi), g0w] at h2
   cases e : vs[i]? with
   | none => rw [e] at h2; cases h2
   | some a => rw [e] at h2; cases h2; rfl
  obtain ⟨u, hu, rv⟩ := r.get ha
  have hp : ps[i]? = some y := by
   rw [<- S.pre, List.getElem?_take_of_lt (by omega)]; exact h1
  have ndP : ps.Nodup := by rw [<- S.pre]; exact S.nd.sublist (List.take_sublist _ _)
  refine ⟨u, rv, ?_⟩
  rcases S.par y (g2g hp) with k | k
  ·exact .inl ⟨k, X1 ndP hp hu k⟩
  ·obtain ⟨c, e⟩ := VB (n := s.heap.objs.size + 1) k
   refine .inr ⟨.inl k, c, e, ?_⟩
   have q := x.cell y c e
   rw [X3 ndP hp hu (by show scope.names.lookup y ≠ _; rw [k]; decide)] at q
   exact q
 ·exact e0.hok.fresh (g2t (x.above y c (PySem.mem_of_lookup h)))
 ·unfold start
  show _ = N.length
  rw [g0f, g1l, List.length_replicate]
  omega
theorem Fp {CX : CXT} {P : Program} {w : World} {K : W.Frag} {mg : Str -> Option Value} {base : Heap} {k : Nat} {f : Addr} {name qual : Str} {params : Arguments} {body : List Stmt} {scope : Scope} {dV kV doc pm cdv ct oc : Value} {an od : Option Addr}
  {osl : Array (Option Value)} {N ps : List Str} {sp : Sp} (lk : K.lookup f = some ⟨oc, od, .func (W.fnOf name qual params body scope dV kV doc pm an cdv ct), osl⟩) (hcd : W.codeIn K cdv qual = true) (S : FnScope N ps scope)
  (len : ∀ vs H Q E, sp vs H Q E -> vs.length = ps.length)
  (Q2 : ∀ (A : Around) (outer : List Env) (s : Shared) (H : Hp) (vs : List V) (Q : VK) (E : XK), Room k (A.deeper (envOfC qual scope s.heap.objs.size f cdv)) -> sp vs H Q E →
   ∃ t, PSs (K1 CX P w K mg base N qual scope f cdv A outer s H E) body t /\ t { nx := fun _ H' => Q .non H', rt := Q } (start N vs) H) :
  FnOk P w K mg base CX (k + 1) f (W.fnOf name qual params body scope dV kV doc pm an cdv ct) ps sp := by
 refine ⟨len, fun A outer s H args us vs Q E hr e0 hb r hsp => ?_⟩
 have hl := len _ _ _ _ hsp
 have KX : K.In s.heap := e0.mod.kin.keeps fun b o e => (e0.bs b o e).1
 have lim : s.heap.NoLimit := e0.mod.nolimit.keeps fun b o e => (e0.bs b o e).1
 have hkind : ∀ y ∈ ps.zip us, scope.names.lookup y.1 = some .local \/ (scope.names.lookup y.1 = some .cell /\ ((cellsFrom (s.heap.objs.size + 1) scope.names []).lookup y.1).isSome = true) := fun ⟨n, v⟩ hy => by
  rcases S.par n (List.of_mem_zip hy).1 with q | q
  ·exact .inl q
  ·exact .inr ⟨q, PySem.W.cellsFrom_some _ _ _ (.inl q)⟩
 refine codeAny_call_function hr.depth (KX _ _ lk) rfl S.co S.gen rfl (PySem.W.codeRec_of KX hcd) (hb _ _ _ _ ?_)
 refine wpAny_newFunctionEnv_cells S.kind hkind fun env he s1 x => ?_
 subst he
 refine ⟨lim.keeps x.toInCall.keep, codeAny_func ?_⟩
 obtain ⟨t, ht, hq⟩ := Q2 A outer s H vs Q E (hr.deeper _) hsp
 have I : Inv (K1 CX P w K mg base N qual scope f cdv A outer s H E) [] (start N vs) H s1 := QX S hr.hd e0 hl r x
 refine wpAny_mono (ht [] s1 (start N vs) H _ I hq) (fun fl s' hs => ?_) fun e s' hs => hs
 have fin : ∀ {σ' : St} {H' : Hp} {v : V} {u : Value}, Inv (K1 CX P w K mg base N qual scope f cdv A outer s H E) [] σ' H' s' -> xK v u -> Q v H' -> CE outer P w H s Q u s' :=
  fun {σ' H' v u} J rv q => ⟨v, H', J.os, J.bare, J.base, J.hok, rv, q⟩
 cases fl with
 | ret u =>
  obtain ⟨v, σ', H', J, rv, q⟩ := hs
  exact fin J rv q
 | next =>
  obtain ⟨σ', H', J, q⟩ := hs
  exact fin (v := V.non) (u := Value.none) J rfl q
 | brk =>
  obtain ⟨_, _, _, q⟩ := hs
  exact False.elim q
 | cont =>
  obtain ⟨_, _, _, q⟩ := hs
  exact False.elim q
section
variable {X : Cx} {x : Str} {p pos : Pos} {e : Expr} {es : List Expr} {t : TA} {id T : String} {r : List V -> Hp -> VK -> Prop}
def tCB (r : List V -> Hp -> VK -> Prop) (t : TA) : TE := fun σ H Q => t σ H fun vs H1 => r vs H1 Q
theorem Yf (hc : uC X (.builtin id) r) (hg : Gl X x) (hm : X.mg x = none) (hv : bootBuiltins x = some (.builtin id)) (ha : PA X (e :: es) t) (hn : x ≠ "__name__" := by decide) (hdb : (x == ("__debug__" : Str)) = false := by decide)
  (he : starEach (e :: es) X.env = (false, eval e X.env) :: starEach es X.env := by rfl) (hpl : (backTo pos (starEach es X.env)).any (·.1) = false := by rfl) : PE X (.Call (.Name x p) (e :: es) [] pos) (tCB r t) := by
 intro pins s σ H Q I h
 refine wpAny_Call_Name_kw (vV I hg hm hv ?_ hn hdb)
 exact PyProof.Rows.callWith_builtin1 (thn (ha pos pins s σ H _ I h) fun us s1 ⟨vs, H1, I1, r1, q1⟩ => hc pins s1 σ H1 vs us Q I1 r1 q1) he hpl
theorem Qk (hc : uC X (.type T) r) (hg : Gl X x) (hm : X.mg x = none) (hv : bootBuiltins x = some (.type T)) (ha : PA X (e :: es) t) (hn : x ≠ "__name__" := by decide) (hdb : (x == ("__debug__" : Str)) = false := by decide)
  (he : starEach (e :: es) X.env = (false, eval e X.env) :: starEach es X.env := by rfl) (hpl : (backTo pos (starEach es X.env)).any (·.1) = false := by rfl) : PE X (.Call (.Name x p) (e :: es) [] pos) (tCB r t) := by
 intro pins s σ H Q I h
 refine wpAny_Call_Name_kw (vV I hg hm hv ?_ hn hdb)
 exact PyProof.Rows.callWith_type1 (thn (ha pos pins s σ H _ I h) fun us s1 ⟨vs, H1, I1, r1, q1⟩ => hc pins s1 σ H1 vs us Q I1 r1 q1) he hpl
end
end L2
namespace HT
open PySem PyProof.Rows
section
open PySem.SeqAt
open PySem.AutoSeq1 (wpAny_loadPart')
open PySem.MeetsSeq PySem.MeetsSeq2 PySem.MeetsSeq3
end
section
variable {prog : Program} {w : World} {A : Around} {E : Value -> Shared -> Prop} {s : Shared}
theorem cat_tup {t b : Addr} {vs ws : List Value} {Q : Value -> Shared -> Prop} (ht : IsTup s.heap t vs.toArray) (hb : IsTup s.heap b ws.toArray) (hv : vs ≠ [])
  (h1 : ws = [] -> Q (.ref t) s) (h2 : ws ≠ [] -> Q (.ref s.heap.objs.size) { s with heap := s.heap.push { cls := .type "tuple", data := .seq (vs ++ ws).toArray } })
  (hsz : vs.length + ws.length <= sizeLine) : wpAny (model prog w) A (binaryOp .Add (.ref t) (.ref b)) Q E s := by
 obtain ⟨⟨cls, dd, data, sl⟩, ho, hc, n, hd⟩ := id ht
 obtain ⟨⟨cls2, dd2, data2, sl2⟩, ho2, hc2, n2, hd2⟩ := id hb
 simp only at hc hd hc2 hd2
 subst hc hd hc2 hd2
 have e : vs.toArray ++ ws.toArray = (vs ++ ws).toArray := by simp
 by_cases hw : ws = []
 ·exact concat_meets ⟨_, ho, rfl⟩ ⟨_, ho2, rfl⟩ noFill_tuple_add seq_tuple_add PySem.F.slot_tuple_add PySem.F.entry_tuple_add (PySem.F.args_tuple_add_2 _ _)
   (tuple_addW1 t b vs.toArray ws.toArray n n2 dd dd2 sl sl2 (by simpa using hv) (by simp [hw])) ⟨ho, ho2, h1 hw⟩
 ·refine concat_meets ⟨_, ho, rfl⟩ ⟨_, ho2, rfl⟩ noFill_tuple_add seq_tuple_add PySem.F.slot_tuple_add PySem.F.entry_tuple_add (PySem.F.args_tuple_add_2 _ _)
   (tuple_addW2 t b vs.toArray ws.toArray n n2 dd dd2 sl sl2 (by simpa using hv) (by simpa using hw) (by rw [g0u, g0u]; exact hsz)) ⟨ho, ho2, ?_⟩
  rw [e]
  exact h2 hw
def sIx (n d : Nat) : Option Int -> Nat
 | none => d
 | some v => if v < 0 then (v + (n : Int)).toNat else min v.toNat n
theorem sIx_none (n d : Nat) : sIx n d none = d := rfl
theorem sIx_nat (n d k : Nat) : sIx n d (some (k : Int)) = min k n := by
 show (if (k : Int) < 0 then ((k : Int) + (n : Int)).toNat else min (k : Int).toNat n) = min k n
 rw [if_neg (by omega), Int.toNat_natCast]
theorem Cc (n d : Nat) (hd : d <= n) (o : Option Int) : sIx n d o <= n := by
 cases o with
 | none => exact hd
 | some v =>
  show (if v < 0 then (v + (n : Int)).toNat else min v.toNat n) <= n
  by_cases hv : v < 0
  ·rw [if_pos hv]; omega
  ·rw [if_neg hv]; exact Nat.min_le_right _ _
theorem Js (v : Int) (n d : Nat) : (if v < 0 then max (v + (n : Int)) 0 else min v (n : Int)) = ((sIx n d (some v) : Nat) : Int) := by
 show (if v < 0 then max (v + (n : Int)) 0 else min v (n : Int)) = (((if v < 0 then (v + (n : Int)).toNat else min v.toNat n) : Nat) : Int)
 by_cases hv : v < 0
 ·simp only [if_pos hv]; omega
 ·simp only [if_neg hv]; omega
theorem Ux (lo hi : Option Int) (n : Nat) : Builtin.Slice.sliceAdjust lo hi 1 (n : Int) = (((sIx n 0 lo : Nat) : Int), ((sIx n n hi : Nat) : Int)) := by
 have h1 : ¬ ((1 : Int) < 0) := by omega
 unfold Builtin.Slice.sliceAdjust
 simp only [h1, if_false]
 refine Prod.ext ?_ ?_
 ·cases lo with
  | none => rfl
  | some v => exact Js v n 0
 ·cases hi with
  | none => rfl
  | some v => exact Js v n n
theorem V4 (i j : Nat) : Builtin.Slice.slicePlaces (i : Int) (j : Int) 1 = j - i := by
 unfold Builtin.Slice.slicePlaces
 have h1 : (1 : Int) > 0 := by omega
 simp only [h1, if_true, Int.ediv_one]
 split <;> omega
theorem Zt {v : Value} {o : Option Int} {Q : Option Int -> Shared -> Prop} (p : IsPart v o) (h : Q o s) : wpAny (model prog w) A (Builtin.Slice.slicePartIndex v) Q E s := by
 cases p with
 | none => exact slicePart_none h
 | int i t => exact slicePart_int h
theorem sliceApplied_gen {sl : Addr} {vl vu : Value} {lo hi : Option Int} {n : Nat} {Q : Int × Int × Nat -> Shared -> Prop} (hs : s.heap.IsSliceOf sl vl vu .none) (pl : IsPart vl lo) (pu : IsPart vu hi)
  (h : Q (((sIx n 0 lo : Nat) : Int), 1, sIx n n hi - sIx n 0 lo) s) : wpAny (model prog w) A (Builtin.Slice.sliceApplied (.ref sl) (pure (n : Int))) Q E s := by
 obtain ⟨os, hos, hcs, hds⟩ := id hs
 unfold Builtin.Slice.sliceApplied Builtin.Slice.sliceFields
 refine wpAny_bind (wpAny_bind (wpAny_field hos hds (x := vl) rfl (wpAny_bind (wpAny_field hos hds (x := vu) rfl (wpAny_bind (wpAny_field hos hds (x := .none) rfl (wpAny_pure ?_)))))))
 refine wpAny_bind (slicePart_none ?_)
 show wpAny _ _ (if ((1 : Int) == 0) = true then _ else _) _ _ s
 rw [if_neg (by decide)]
 refine wpAny_bind (Zt pl (wpAny_bind (Zt pu (wpAny_bind (wpAny_pure ?_)))))
 show wpAny _ _ (match Builtin.Slice.sliceAdjust lo hi 1 (n : Int) with | (lo, hi) => pure (lo, (1 : Int), Builtin.Slice.slicePlaces lo hi 1)) _ _ s
 rw [Ux lo hi n]
 show wpAny _ _ (pure (((sIx n 0 lo : Nat) : Int), (1 : Int), Builtin.Slice.slicePlaces ((sIx n 0 lo : Nat) : Int) ((sIx n n hi : Nat) : Int) 1)) _ _ s
 rw [V4]
 exact wpAny_pure h
theorem J9 (xs : Array Value) (i k : Nat) : ((g1f k).filterMap fun (m : Nat) => xs[((i : Int) + (m : Int) * 1).toNat]?).toArray = ((xs.toList.drop i).take k).toArray := by
 have e : (fun (m : Nat) => xs[((i : Int) + (m : Int) * 1).toNat]?) = fun m => xs[i + m]? := by
  funext m
  have : ((i : Int) + (m : Int) * 1).toNat = i + m := by omega
  rw [this]
 rw [e]
 have := pick_run xs i k
 rw [List.filterMap_map] at this
 have e2 : ((fun x => xs[x]?) ∘ fun x => i + x) = fun m => xs[i + m]? := rfl
 rw [e2] at this
 rw [this]
theorem getItem_tuple_cut {t sl : Addr} {items : Array Value} {vl vu : Value} {lo hi : Option Int} {Q : Value -> Shared -> Prop} (ht : IsTup s.heap t items) (hs : s.heap.IsSliceOf sl vl vu .none) (pl : IsPart vl lo) (pu : IsPart vu hi)
  (hw : ¬ (sIx items.size 0 lo = 0 /\ sIx items.size items.size hi = items.size))
  (h : Q (.ref s.heap.objs.size) { s with heap := s.heap.push { cls := .type "tuple", data := .seq ((items.toList.drop (sIx items.size 0 lo)).take (sIx items.size items.size hi - sIx items.size 0 lo)).toArray } })
  (hsz : items.size <= sizeLine) : wpAny (model prog w) A (getItem (.ref t) (.ref sl)) Q E s := by
 have htake : sizeOk (.seq ((items.toList.drop (sIx items.size 0 lo)).take (sIx items.size items.size hi - sIx items.size 0 lo)).toArray) := by
  show ((items.toList.drop (sIx items.size 0 lo)).take (sIx items.size items.size hi - sIx items.size 0 lo)).toArray.size <= sizeLine
  rw [g0u, g1c, g1k, Array.length_toList]
  omega
 have hj : sIx items.size items.size hi <= items.size := Cc _ _ (g0o _) hi
 obtain ⟨os, hos, hcs, hds⟩ := id hs
 have hTs : s.TypeIs (.ref sl) "slice" := ⟨os, hos, hcs⟩
 unfold getItem
 try with_reducible refine wpAny_holding ?_
 first | refine wpAny_bind (wpAny_pure ?_) | skip
 refine wpAny_bind (wpAny_sequenceKey ht.typeIs (by decide) ?_)
 refine wpAny_bind (wpAny_callSpecial?_slot (name := Str.ofString "__getitem__") ht.typeIs PyProof.Rows.slot_tuple_getitem
  (wpAny_call_entry PyProof.Rows.slot_tuple_getitem ht.typeIs entry_tuple_getitem ?_ (args_tuple_getitem _ _)))
 show wpAny _ _ (Builtin.Tuple.tupleItemsOf (.ref t) >>= _) _ _ s
 refine wpAny_bind (tupleItemsOf_ ht ?_)
 refine wpAny_bind (wpAny_typeOf hTs ?_)
 rw [if_pos (by decide)]
 refine wpAny_bind (sliceApplied_gen hs pl pu ?_)
 have hno : ¬ ((((sIx items.size 0 lo : Nat) : Int) == 0 && (1 : Int) == 1 && (sIx items.size items.size hi - sIx items.size 0 lo) == items.size) = true) := by
  intro q
  rw [g3a, g3a] at q
  have q1 : ((sIx items.size 0 lo : Nat) : Int) = 0 := eq_of_beq q.1.1
  have q2 : sIx items.size items.size hi - sIx items.size 0 lo = items.size := eq_of_beq q.2
  exact hw ⟨by omega, by omega⟩
 show wpAny _ _ (if (((sIx items.size 0 lo : Nat) : Int) == 0 && (1 : Int) == 1 && (sIx items.size items.size hi - sIx items.size 0 lo) == items.size) = true then _ else _) _ _ s
 rw [if_neg hno, J9]
 first
  | exact wpAny_bind (m := Builtin.Tuple.tupleExact _) (wpAny_newObj_type (wpAny_pure ⟨_, rfl, wpAny_pure h⟩) htake)
  | exact wpAny_bind (m := Builtin.Tuple.tupleExact _) (wpAny_newObj_type (wpAny_bind (wpAny_pure (wpAny_pure ⟨_, rfl, wpAny_pure h⟩))) htake)
  | exact wpAny_bind (wpAny_bind (m := Builtin.Tuple.tupleExact _) (wpAny_newObj_type (wpAny_pure (wpAny_pure ⟨_, rfl, wpAny_pure h⟩)) htake))
  | exact wpAny_bind (wpAny_bind (m := Builtin.Tuple.tupleExact _) (wpAny_newObj_type (wpAny_pure ⟨_, rfl, wpAny_pure h⟩) htake))
end
end HT
namespace L2
open PySem PySem.Spec PyProof.Rows
abbrev TO := St -> Hp -> (Option Int -> Hp -> Prop) -> Prop
def PO (X : Cx) (e : Option Expr) (t : TO) : Prop :=
 ∀ (pins : List (Addr × Obj)) (s : Shared) (σ : St) (H : Hp) (Q : Option Int -> Hp -> Prop), Inv X pins σ H s -> t σ H Q →
  wpAny (model X.prog X.w) X.A (evalPart e X.env) (fun u s' => ∃ o H', Inv X pins σ H' s' /\ IsPart u o /\ Q o H') X.xe s
def UM : TO := fun _ H Q => Q none H
def DB (t : TE) : TO := fun σ H Q => t σ H fun x H1 => ∃ i, x = .int i /\ Q (some i) H1
section
variable {X : Cx} {e : Expr} {te : TE} {lo hi : Option Expr} {tl th : TO} {pos p2 : Pos}
theorem Qe : PO X none UM := by
 intro pins s σ H Q I h
 rw [evalPart_none]
 exact wpAny_pure ⟨none, H, I, .none, h⟩
theorem Qd (h : PE X e te) : PO X (some e) (DB te) := by
 intro pins s σ H Q I hw
 rw [evalPart_some]
 refine thn (h pins s σ H _ I hw) fun u s1 ⟨x, H1, I1, r1, q1⟩ => ?_
 obtain ⟨i, rfl, q⟩ := q1
 obtain ⟨t, rfl⟩ := r1
 exact ⟨some i, H1, I1, .int i t, q⟩
def SlR (X : Cx) (r : V -> Option Int -> Option Int -> Hp -> VK -> Prop) : Prop :=
 ∀ (pins : List (Addr × Obj)) (s : Shared) (σ : St) (H : Hp) (x : V) (v vl vu : Value) (lo hi : Option Int) (sl : Addr) (Q : VK), Inv X pins σ H s -> xK x v -> s.heap.IsSliceOf sl vl vu .none -> IsPart vl lo -> IsPart vu hi -> r x lo hi H Q →
  ∃ T id, typeLookup (.type T) "__getitem__" = pure (some (.builtin id)) /\ s.TypeIs v T /\ wpAny (model X.prog X.w) X.A (getItem v (.ref sl)) (EP X pins σ Q) X.xe s
theorem SlR.or {r r' : V -> Option Int -> Option Int -> Hp -> VK -> Prop} (h : SlR X r) (h' : SlR X r') : SlR X (fun x lo hi H Q => r x lo hi H Q \/ r' x lo hi H Q) := by
 intro pins s σ H x v vl vu lo hi sl Q I rx hs pl pu q
 rcases q with q | q
 ·exact h pins s σ H x v vl vu lo hi sl Q I rx hs pl pu q
 ·exact h' pins s σ H x v vl vu lo hi sl Q I rx hs pl pu q
def tSl (r : V -> Option Int -> Option Int -> Hp -> VK -> Prop) (te : TE) (tl th : TO) : TE := fun σ H Q => te σ H fun x H1 => tl σ H1 fun l H2 => th σ H2 fun u H3 => r x l u H3 Q
theorem Vf {r : V -> Option Int -> Option Int -> Hp -> VK -> Prop} (hr : SlR X r) (he : PE X e te) (hl : PO X lo tl) (hu : PO X hi th) : PE X (.Subscript e (.Slice lo hi none p2) pos) (tSl r te tl th) := by
 intro pins s σ H Q I h
 refine Subscript_ (thn (he pins s σ H _ I h) fun v s1 ⟨x, H1, I1, r1, q1⟩ => ?_)
 refine wpAny_Slice (thn (hl pins s1 σ H1 _ I1 q1) fun vl s2 ⟨l, H2, I2, pl, q2⟩ => thn (hu pins s2 σ H2 _ I2 q2) fun vu s3 ⟨u, H3, I3, pu, q3⟩ => ?_)
 rw [evalPart_none]
 refine wpAny_pure ?_
 have I4 : Inv X pins σ H3 { s3 with heap := s3.heap.push { cls := .type "slice", data := .fields #[vl, vu, .none] } } := I3.kept (t' := s3.toks) fun b ob q => Heap.get?_push_of_some _ q
 obtain ⟨T, id, hT, ht, hg⟩ := hr pins { s3 with heap := s3.heap.push { cls := .type "slice", data := .fields #[vl, vu, .none] } } σ H3 x v vl vu l u s3.heap.objs.size Q I4 r1 (Heap.IsSliceOf.new ..) pl pu q3
 show wpAny (model X.prog X.w) X.A (subscriptTail e (.Slice lo hi none p2) v (.ref s3.heap.objs.size)) (EP X pins σ Q) X.xe { s3 with heap := s3.heap.push { cls := .type "slice", data := .fields #[vl, vu, .none] } }
 exact tail_any (ops := [.ref s3.heap.objs.size, v]) ht hT hg (by with_unfolding_all rfl)
def Ut (xs : List V) (lo hi : Option Int) : List V := (xs.drop (HT.sIx xs.length 0 lo)).take (HT.sIx xs.length xs.length hi - HT.sIx xs.length 0 lo)
theorem kW (xs : List V) (lo hi : Option Int) : (Ut xs lo hi).length <= xs.length := by
 unfold Ut
 rw [g1c, g1k]
 omega
def MH (K : W.Frag) : V -> Option Int -> Option Int -> Hp -> VK -> Prop := fun x lo hi H Q => ∃ a xs, x = .ref a /\ SqT K H a xs ∧
 ¬ (HT.sIx xs.length 0 lo = 0 /\ HT.sIx xs.length xs.length hi = xs.length) /\ ∀ p, H p = none -> Q (.ref p) (upd H p (.tup (Ut xs lo hi)))
theorem BO : SlR X (MH X.K) := by
 intro pins s σ H x v vl vu lo hi sl Q I rx hs pl pu h
 obtain ⟨a, xs, rfl, hx, hw, q⟩ := h
 cases rx
 obtain ⟨its, r, ht, hz⟩ := I.tuple hx
 have hlen : its.toArray.size = xs.length := by rw [g0u]; exact r.length.symm
 refine ⟨"tuple", _, PyProof.Rows.slot_tuple_getitem.lookup, ht.typeIs, ?_⟩
 refine HT.getItem_tuple_cut ht hs pl pu (by rw [hlen]; exact hw) ?_ (by rw [hlen]; exact hz)
 rw [hlen]
 refine ⟨.ref s.heap.objs.size, _, I.laid (t' := s.toks) (o := .tup (Ut xs lo hi)) (fun b ob q => Heap.get?_push_of_some _ q) (g0o _) ?_, rfl, q _ (I.hok.fresh (g0o _))⟩
 exact ⟨g1y (kW xs lo hi) hz, _, (r.drop (HT.sIx xs.length 0 lo)).take (HT.sIx xs.length xs.length hi - HT.sIx xs.length 0 lo), IsTup.new _ _⟩
def D5 (K : W.Frag) : R2 := fun x y H Q => ∃ a b xs ys, x = .ref a /\ y = .ref b /\ SqT K H a xs /\ SqT K H b ys /\ xs ≠ [] /\ xs.length + ys.length <= sizeLine ∧
 (ys = [] -> Q (.ref a) H) /\ (ys ≠ [] -> ∀ p, H p = none -> Q (.ref p) (upd H p (.tup (xs ++ ys))))
theorem xk.nil_iff {xs : List V} {us : List Value} (r : xk xs us) : us = [] ↔ xs = [] := by
 cases r with
 | nil => simp
 | cons _ _ => simp
theorem Ho : OpR X (binaryOp .Add) (D5 X.K) := by
 intro pins s σ H x y v u Q I rx ry h
 obtain ⟨a, b, xs, ys, rfl, rfl, ha, hb, hx, hz, q1, q2⟩ := h
 cases rx
 cases ry
 obtain ⟨its, r1, p1, _⟩ := I.tuple ha
 obtain ⟨its2, r2, p2, _⟩ := I.tuple hb
 refine HT.cat_tup p1 p2 (fun z => hx (r1.nil_iff.mp z)) (fun z => ⟨.ref a, H, I, rfl, q1 (r2.nil_iff.mp z)⟩) (fun z => ?_) (by rw [<- r1.length, <- r2.length]; exact hz)
 refine ⟨.ref s.heap.objs.size, _, I.laid (t' := s.toks) (o := .tup (xs ++ ys)) (fun b ob q => Heap.get?_push_of_some _ q) (g0o _) ?_, rfl, q2 (fun w => z (r2.nil_iff.mpr w)) _ (I.hok.fresh (g0o _))⟩
 exact ⟨by rw [g0f]; exact hz, _, r1.append r2, IsTup.new _ _⟩
end
def ixN (n : Nat) (i : Int) : Option Nat := if 0 <= i then (if i < n then some i.toNat else none) else if -(n : Int) <= i then some (i + n).toNat else none
def atI {α : Type} (xs : List α) (i : Int) : Option α := (ixN xs.length i).bind fun j => xs[j]?
theorem HV {n : Nat} {i : Int} {j : Nat} (h : ixN n i = some j) : seqIndex? i n = some j /\ j < n /\ -(n : Int) <= i /\ i < n := by
 unfold ixN at h
 by_cases h0 : 0 <= i
 ·rw [if_pos h0] at h
  by_cases h1 : i < n
  ·rw [if_pos h1] at h
   have e : i.toNat = j := g2s.inj h
   exact ⟨by rw [seqIndex_of h0 h1, e], by omega, by omega, h1⟩
  ·rw [if_neg h1] at h; cases h
 ·rw [if_neg h0] at h
  by_cases h1 : -(n : Int) <= i
  ·rw [if_pos h1] at h
   have e : (i + n).toNat = j := g2s.inj h
   exact ⟨by rw [seqIndex_neg (by omega) h1, e], by omega, h1, by omega⟩
  ·rw [if_neg h1] at h; cases h
theorem WH {α : Type} {xs : List α} {i : Int} {v : α} (h : atI xs i = some v) : ∃ j, seqIndex? i xs.length = some j /\ xs[j]? = some v /\ j < xs.length /\ -(xs.length : Int) <= i /\ i < xs.length := by
 unfold atI at h
 cases e : ixN xs.length i with
 | none => rw [e] at h; cases h
 | some j =>
  rw [e] at h
  obtain ⟨h1, h2, h3, h4⟩ := HV e
  exact ⟨j, h1, h, h2, h3, h4⟩
theorem qr {α : Type} {xs : List α} {j : Nat} {v : α} (h : xs[j]? = some v) : atI xs (j : Int) = some v := by
 have hj : j < xs.length := (g0y.mp h).1
 have e : ixN xs.length (j : Int) = some j := by
  unfold ixN
  rw [if_pos (by omega), if_pos (by omega)]; simp
 unfold atI; rw [e]; exact h
def WK (b : Expr) : Prop := ∀ o i, subscripted b false o i = operate [o, i] (getItem o i)
def IxR (X : Cx) (r : R2) : Prop :=
 ∀ (value slice : Expr) (pins : List (Addr × Obj)) (s : Shared) (σ : St) (H : Hp) (x y : V) (v u : Value) (Q : VK), Inv X pins σ H s -> xK x v -> xK y u -> r x y H Q →
  subscripted slice false v u = operate [v, u] (getItem v u) -> wpAny (model X.prog X.w) X.A (subscriptTail value slice v u) (EP X pins σ Q) X.xe s
def MtR (X : Cx) (id : String) (r : V -> List V -> Hp -> VK -> Prop) : Prop :=
 ∀ (pins : List (Addr × Obj)) (s : Shared) (σ : St) (H : Hp) (x : V) (xs : List V) (v : Value) (us : List Value) (Q : VK), Inv X pins σ H s -> xK x v -> xk xs us -> r x xs H Q →
  wpAny (model X.prog X.w) X.A (call (.builtin id) (v :: us)) (EP X pins σ Q) X.xe s
section
variable {X : Cx} {a b : Expr} {ta tb : TE} {pos : Pos}
theorem IxR.or {r r' : R2} (h : IxR X r) (h' : IxR X r') : IxR X (fun x y H Q => r x y H Q \/ r' x y H Q) := by
 intro value slice pins s σ H x y v u Q I rx ry q hs
 rcases q with q | q
 ·exact h value slice pins s σ H x y v u Q I rx ry q hs
 ·exact h' value slice pins s σ H x y v u Q I rx ry q hs
theorem Hh {r : R2} (hr : IxR X r) (ha : PE X a ta) (hb : PE X b tb) (hs : WK b) : PE X (.Subscript a b pos) (tOp r ta tb) := by
 intro pins s σ H Q I h
 exact Subscript_ (Fy ha hb I h fun v u s2 x y H2 I2 rx ry q => hr a b pins s2 σ H2 x y v u Q I2 rx ry q (hs _ _))
def Me (K : W.Frag) : R2 := fun x y H Q => ∃ p xs i v, x = .ref p /\ y = .int i /\ SqL K H p xs /\ atI xs i = some v /\ Q v H
def Mc (K : W.Frag) : R2 := fun x y H Q => ∃ p xs i v, x = .ref p /\ y = .int i /\ SqT K H p xs /\ atI xs i = some v /\ Q v H
def Md : R2 := fun x y H Q => ∃ z i c, x = .str z /\ y = .int i /\ z.length <= sizeLine /\ atI z.cps.toList i = some c /\ Q (.str ⟨#[c]⟩) H
theorem HU : IxR X (Me X.K) := by
 intro value slice pins s σ H x y v u Q I rx ry h hs
 obtain ⟨p, xs, i, z, rfl, rfl, hq, he, q⟩ := h
 cases rx
 obtain ⟨t, rfl⟩ := ry
 obtain ⟨its, r, pl, hz⟩ := I.list hq
 obtain ⟨j, h1, h2, h3, h4, h5⟩ := WH he
 obtain ⟨w, ew, rw'⟩ := r.get h2
 have hl := r.length
 have hn := qe
 have fin : EP X pins σ Q w s := ⟨z, H, I, rw', q⟩
 by_cases h0 : 0 <= i
 ·have hj : i.toNat = j := by
   rw [seqIndex_of h0 h5] at h1
   exact g2s.inj h1
  exact item_listR pl.isList h0 (by omega) (by rw [hj]; simpa using ew) fin hs
 ·have hj : (i + (its.toArray.size : Int)).toNat = j := by
   rw [seqIndex_neg (by omega) h4] at h1
   rw [g0u, <- hl]
   exact g2s.inj h1
  exact subscriptTail_builtinR (x := w) pl.isList.typeIs slot_list_getitem.lookup
   (wpAny_getItem_list_neg (Q := fun r s' => r = w /\ EP X pins σ Q r s') pl.isList (by omega) (by rw [g0u] <;> omega) (by omega) (by rw [hj]; simpa using ew) ⟨rfl, fin⟩) hs
theorem CW : IxR X (Mc X.K) := by
 intro value slice pins s σ H x y v u Q I rx ry h hs
 obtain ⟨p, xs, i, z, rfl, rfl, hq, he, q⟩ := h
 cases rx
 obtain ⟨t, rfl⟩ := ry
 obtain ⟨its, r, pl, hz⟩ := I.tuple hq
 obtain ⟨j, h1, h2, h3, h4, h5⟩ := WH he
 obtain ⟨w, ew, rw'⟩ := r.get h2
 have hl := r.length
 have hn := qe
 have fin : EP X pins σ Q w s := ⟨z, H, I, rw', q⟩
 exact subscriptTail_builtinR (x := w) pl.typeIs slot_tuple_getitem.lookup
  (getItem_tuple (j := j) (Q := fun r s' => r = w /\ EP X pins σ Q r s') pl (by omega) (by omega) (by rw [g0u, <- hl]; exact h1) (by simpa using ew) ⟨rfl, fin⟩) hs
theorem CY : IxR X Md := by
 intro value slice pins s σ H x y v u Q I rx ry h hs
 obtain ⟨z, i, c, rfl, rfl, hz, he, q⟩ := h
 obtain ⟨t, rfl⟩ := rx
 obtain ⟨t', rfl⟩ := ry
 obtain ⟨j, h1, h2, h3, h4, h5⟩ := WH he
 have hl : z.cps.toList.length = z.length := by simp [Str.length]
 rw [hl] at h1 h4 h5
 have hn := qe
 exact tail_any (typeIs_str s z t) slot_str_getitem.lookup (getItem_str (c := c) (by
  have e1 : decide (i < -(2 ^ 63 : Int)) = false := decide_eq_false (by omega)
  have e2 : decide (i ≥ 2 ^ 63) = false := decide_eq_false (by omega)
  rw [e1, e2, Bool.or_false]) (by rw [h1]; simpa using h2) ⟨.str ⟨#[c]⟩, H, I.tok _, ⟨_, rfl⟩, q⟩) hs
def rIx (K : W.Frag) : R2 := fun x y H Q => Me K x y H Q \/ Mc K x y H Q \/ Md x y H Q
theorem QU : IxR X (rIx X.K) := HU.or (CW.or CY)
theorem Y3 (lo hi : Option Int) (n : Nat) : (sliceBounds lo hi none n).1 = ((HT.sIx n 0 lo : Nat) : Int) /\ (sliceBounds lo hi none n).2.1 = ((HT.sIx n n hi : Nat) : Int) /\ (sliceBounds lo hi none n).2.2 = 1 := by
 refine ⟨?_, ?_, rfl⟩
 ·cases lo with
  | none => simp [sliceBounds, HT.sIx]
  | some i =>
   simp only [sliceBounds, HT.sIx, Option.getD_none, show (1 : Int) > 0 by decide, if_true]
   by_cases h : i < 0
   ·simp only [h, if_true] <;> omega
   ·simp only [h, if_false] <;> omega
 ·cases hi with
  | none => simp [sliceBounds, HT.sIx]
  | some i =>
   simp only [sliceBounds, HT.sIx, Option.getD_none, show (1 : Int) > 0 by decide, if_true]
   by_cases h : i < 0
   ·simp only [h, if_true] <;> omega
   ·simp only [h, if_false] <;> omega
theorem Z2 (its : List Value) (lo hi : Option Int) : slicePick its.toArray lo hi none = ((its.drop (HT.sIx its.length 0 lo)).take (HT.sIx its.length its.length hi - HT.sIx its.length 0 lo)).toArray := by
 obtain ⟨h1, h2, h3⟩ := Y3 lo hi its.toArray.size
 unfold slicePick
 rw [h1, h2, h3]
 simp only [sliceRange_one, pick_run, g0u] <;> rfl
def MI (K : W.Frag) : V -> Option Int -> Option Int -> Hp -> VK -> Prop := fun x lo hi H Q => ∃ a xs, x = .ref a /\ SqL K H a xs /\ ∀ p, H p = none -> Q (.ref p) (upd H p (.lst (Ut xs lo hi)))
theorem GV : SlR X (MI X.K) := by
 intro pins s σ H x v vl vu lo hi sl Q I rx hs pl pu h
 obtain ⟨a, xs, rfl, hx, q⟩ := h
 cases rx
 obtain ⟨its, r, ht, hz⟩ := I.list hx
 have hlen := r.length
 refine ⟨"list", _, slot_list_getitem.lookup, ht.isList.typeIs, ?_⟩
 refine wpAny_getItem_list_slice ht.isList hs pl pu .none (by simp) ?_ (by rw [g0u] <;> omega)
 rw [Z2, <- hlen]
 refine ⟨.ref s.heap.objs.size, _, I.laid (t' := s.toks) (o := .lst (Ut xs lo hi)) (fun b ob q => Heap.get?_push_of_some _ q) (g0o _) ?_, rfl, q _ (I.hok.fresh (g0o _))⟩
 exact ⟨g1y (kW xs lo hi) hz, _, 0, (r.drop (HT.sIx xs.length 0 lo)).take (HT.sIx xs.length xs.length hi - HT.sIx xs.length 0 lo), Heap.get?_push_size _ rfl⟩
theorem XT : uC X (.builtin "len") (fun xs H Q => ∃ p ys, xs = [.ref p] /\ (SqL X.K H p ys \/ SqT X.K H p ys) /\ Q (.int ys.length) H) := by
 intro pins s σ H xs us Q I r h
 obtain ⟨p, ys, rfl, hq, q⟩ := h
 obtain ⟨u, rfl, rx⟩ := VN r
 cases rx
 have hn := qe
 rcases hq with hq | hq
 ·obtain ⟨its, r', pl, hz⟩ := I.list hq
  have hlen := r'.length
  exact Calls.call_len_list pl.isList (by simp only [g0u] <;> omega) ⟨.int ys.length, H, I.tok _, ⟨s.toks + 1, by rw [g0u, hlen]⟩, q⟩
 ·obtain ⟨its, r', pl, hz⟩ := I.tuple hq
  have hlen := r'.length
  exact len_tuple pl (by simp only [g0u] <;> omega) ⟨.int ys.length, H, I.tok _, ⟨s.toks + 1, by rw [g0u, hlen]⟩, q⟩
theorem XS : uC X (.builtin "len") (fun xs H Q => ∃ z, xs = [.str z] /\ z.length <= sizeLine /\ Q (.int z.length) H) := by
 intro pins s σ H xs us Q I r h
 obtain ⟨z, rfl, hz, q⟩ := h
 obtain ⟨u, rfl, t, rfl⟩ := VN r
 have hn := qe
 exact len_str (by omega) ⟨.int z.length, H, I.tok _, ⟨_, rfl⟩, q⟩
theorem uC.or {f : Value} {r r' : List V -> Hp -> VK -> Prop} (h : uC X f r) (h' : uC X f r') : uC X f (fun xs H Q => r xs H Q \/ r' xs H Q) := by
 intro pins s σ H xs us Q I rs q
 rcases q with q | q
 ·exact h pins s σ H xs us Q I rs q
 ·exact h' pins s σ H xs us Q I rs q
theorem wN : uC X (.type "tuple") (fun xs H Q => ∃ p ys, xs = [.ref p] /\ ((SqL X.K H p ys /\ ∀ l, H l = none -> Q (.ref l) (upd H l (.tup ys))) \/ (SqT X.K H p ys /\ Q (.ref p) H))) := by
 intro pins s σ H xs us Q I r h
 obtain ⟨p, ys, rfl, h⟩ := h
 obtain ⟨u, rfl, rx⟩ := VN r
 cases rx
 rcases h with ⟨hq, q⟩ | ⟨hq, q⟩
 ·obtain ⟨its, r', pl, hz⟩ := I.list hq
  have hlen := r'.length
  refine call_tuple_list pl.isList (fun h' kp => ?_) (by simp only [g0u] <;> omega)
  have I1 : Inv X pins σ H { s with heap := h' } := I.kept (t' := s.toks) kp
  have I2 : Inv X pins σ (upd H h'.objs.size (.tup ys)) { s with heap := h'.push { cls := .type "tuple", data := .seq its.toArray } } :=
   I1.laid (t' := s.toks) (fun b o e => Heap.get?_push_of_some _ e) (g0o _) (show u5 X.prog X.w _ _ _ (.tup ys) from ⟨hz, its, r', IsTup.new _ _⟩)
  exact ⟨.ref h'.objs.size, _, I2, rfl, q _ (I1.hok.fresh (g0o _))⟩
 ·obtain ⟨its, r', pl, hz⟩ := I.tuple hq
  exact call_tuple_same pl ⟨.ref p, H, I, rfl, q⟩
def tyV (K : W.Frag) (T : String) (x : V) (H : Hp) : Prop := match x with
 | .str _ => T = "str"
 | .int _ => T = "int"
 | .ref p => (T = "list" /\ ∃ xs, SqL K H p xs) \/ (T = "tuple" /\ ∃ o, K.lookup p = some o /\ o.cls = .type "tuple" /\ o.dict = none) ∨
   (T = "dict" /\ ((∃ kvs, H p = some (.dK kvs)) \/ ∃ kvs, H p = some (.dT kvs))) \/ (T = "set" /\ ∃ S n, H p = some (.set S n))
 | _ => False
theorem BK {pins : List (Addr × Obj)} {σ : St} {H : Hp} {s : Shared} {T : String} {x : V} {v : Value} (I : Inv X pins σ H s) (r : xK x v) (ty : tyV X.K T x H) :
  s.TypeIs v T /\ ∀ a, v = .ref a -> ∃ ob, s.heap.get? a = some ob /\ ob.dict = none := by
 cases x with
 | str z =>
  obtain ⟨t, rfl⟩ := r
  cases (show T = "str" from ty)
  exact ⟨typeIs_str s z t, fun _ e => nomatch e⟩
 | int i =>
  obtain ⟨t, rfl⟩ := r
  cases (show T = "int" from ty)
  exact ⟨typeIs_int s i t, fun _ e => nomatch e⟩
 | ref p =>
  cases r
  rcases ty with ⟨rfl, xs, hq⟩ | ⟨rfl, o, hk, hc, hd⟩ | ⟨rfl, hk⟩ | ⟨rfl, S, n, hk⟩
  ·obtain ⟨its, _, pl, _⟩ := I.list hq
   refine ⟨pl.isList.typeIs, fun a e => ?_⟩
   cases e
   obtain ⟨o, n, e, c, hd, _⟩ := pl
   exact ⟨o, e, hd⟩
  ·refine ⟨⟨o, I.kIn p o hk, hc⟩, fun a e => ?_⟩
   cases e
   exact ⟨o, I.kIn _ o hk, hd⟩
  ·have z : ∃ o, s.heap.get? p = some o /\ o.ExactDict := by
    rcases hk with ⟨kvs, hk⟩ | ⟨kvs, hk⟩
    ·obtain ⟨_, _, _, _, o, _, _, e, ex, _⟩ := I.hok p _ hk
     exact ⟨o, e, ex⟩
    ·obtain ⟨_, _, _, _, o, _, _, e, ex, _⟩ := I.hok p _ hk
     exact ⟨o, e, ex⟩
   obtain ⟨o, e, ex⟩ := z
   refine ⟨⟨o, e, ex.1⟩, fun a e2 => ?_⟩
   cases e2
   exact ⟨o, e, ex.2.1⟩
  ·obtain ⟨o, _, _, _, e, ex, _⟩ := I.hok p _ hk
   refine ⟨⟨o, e, ex.1⟩, fun a e2 => ?_⟩
   cases e2
   exact ⟨o, e, ex.2.1⟩
 | _ => exact False.elim ty
def tBM (K : W.Frag) (T : String) (r : V -> List V -> Hp -> VK -> Prop) (to : TE) (t : TA) : TE := fun σ H Q => to σ H fun x H1 => tyV K T x H1 /\ t σ H1 fun xs H2 => r x xs H2 Q
variable {o e : Expr} {es : List Expr} {to : TE} {t : TA} {name : Str} {apos cpos : Pos} {T id : String} {r : V -> List V -> Hp -> VK -> Prop}
theorem Cu (pa : PlainAttrs T) (slot : Slot T name id) (hty : typeOf (.builtin id) = pure (.type "method_descriptor")) (hm : MtR X id r) (ho : PE X o to) (ha : PA X (e :: es) t)
  (hbase : attributeBase o name X.env (eval o X.env) = eval o X.env := by rfl)
  (hfew : ((backTo cpos (starEach (e :: es) X.env)).all (fun x => !x.1) && (backToKw cpos (keywordEach [] X.env)).all (fun x => x.1.isSome)
   && decide ((e :: es).length + ([] : List Keyword).length + (if ([] : List Keyword).isEmpty then 0 else 1) < 30)) = true := by rfl)
  (hline : (apos.endLine == cpos.line) = true := by rfl) (hs : starEach (e :: es) X.env = (false, eval e X.env) :: starEach es X.env := by rfl) (hplain : (backTo cpos (starEach es X.env)).any (·.1) = false := by rfl) :
  PE X (.Call (.Attribute o name apos) (e :: es) [] cpos) (tBM X.K T r to t) := by
 intro pins s σ H Q I h
 refine wpAny_Call_method_late hbase hfew hline rfl (thn (ho pins s σ H _ I h) fun v s1 ⟨x, H1, I1, r1, ty, q1⟩ => ?_)
 obtain ⟨h1, h2⟩ := BK I1 r1 ty
 refine ⟨T, id, pa, slot, hty, h1, h2, ?_⟩
 have hA := ha cpos pins s1 σ H1 _ I1 q1
 rw [hs] at hA ⊢
 refine Calls.callWith_builtin (by show (false || (backTo cpos (starEach es X.env)).any (·.1)) = false; rw [hplain] <;> rfl) (Calls.evalArgs_plain ?_)
 exact thn hA fun us s2 ⟨vs, H2, I2, r2, q2⟩ => hm pins s2 σ H2 x vs v us Q I2 r1 r2 q2
end
def MtM (X : Cx) (id : String) (r : V -> List V -> Hp -> VK -> Prop) : Prop :=
 ∀ (pins : List (Addr × Obj)) (s : Shared) (σ : St) (H : Hp) (x : V) (xs : List V) (v : Value) (us : List Value) (Q : VK), Inv X pins σ H s -> xK x v -> xk xs us -> r x xs H Q →
  wpAny (model X.prog X.w) X.A (call (.builtin id) (v :: us)) (EP X pins σ Q) X.xe s
theorem xk.one : ∀ {x : V} {us : List Value}, xk [x] us -> ∃ u, us = [u] /\ xK x u
 | _, _, .cons r .nil => ⟨_, rfl, r⟩
theorem xk.reverse {xs : List V} {us : List Value} (h : xk xs us) : xk xs.reverse us.reverse := by
 induction h with
 | nil => exact .nil
 | cons r t ih => rw [g2f, g2f]; exact xk.append ih (.cons r .nil)
theorem xk.rep {xs : List V} {us : List Value} (h : xk xs us) : ∀ k : Nat, xk (g0i k xs).flatten (g0i k us).flatten
 | 0 => .nil
 | k + 1 => by
  rw [g1r, g1r, g2k, g2k]
  exact xk.append h (xk.rep h k)
theorem Xz (its : List Value) : ∀ (k : Nat) (acc : List Value),
  List.foldl (fun x1 x2 => x1 ++ x2) acc.toArray (g0i k its.toArray) = (acc ++ (g0i k its).flatten).toArray
 | 0, acc => by simp
 | k + 1, acc => by
  have e : acc.toArray ++ its.toArray = (acc ++ its).toArray := by simp
  have e2 : (acc ++ its) ++ (g0i k its).flatten = acc ++ (g0i (k + 1) its).flatten := by
   rw [g1r, g2k, g1g]
  rw [<- e2, <- Xz its k (acc ++ its), <- e, g1r, List.foldl_cons]
section
variable {X : Cx} {pins : List (Addr × Obj)} {σ : St} {H : Hp} {s : Shared} {l b : Addr} {xs ys zs : List V}
theorem Inv.lset {its its' : List Value} {n : Nat} {f : Array Value -> Array Value} {t' : Nat} (I : Inv X pins σ H s) (hH : H l = some (.lst xs))
  (e : s.heap.get? l = some { cls := .type "list", data := .seq its.toArray n }) (hf : f its.toArray = its'.toArray) (hv : xk ys its') (hz : ys.length <= sizeLine) :
  Inv X pins σ (upd H l (.lst ys)) { s with heap := s.heap.update l (Obj.mapSeq f), toks := t' } := by
 have q := PySem.IsL.update e f
 rw [hf] at q
 refine I.write (x := l) (e := l) (by rw [hH]; exact trivial) (.inl rfl) (fun b' u hb hu => (Heap.get?_update_other s.heap (Obj.mapSeq f) (Ne.symm hb)).trans hu) ⟨_, q⟩ ?_
 exact ⟨hz, its', _, hv, q⟩
theorem Inv.lnew {its : List Value} {t' : Nat} (I : Inv X pins σ H s) (hv : xk ys its) (hz : ys.length <= sizeLine) :
  Inv X pins σ (upd H s.heap.objs.size (.lst ys)) { s with heap := s.heap.push { cls := .type "list", data := .seq its.toArray }, toks := t' } :=
 I.laid (fun _ _ q => Heap.get?_push_of_some _ q) (g0o _) ⟨hz, its, 0, hv, Heap.get?_push_size _ rfl⟩
theorem Inv.fresh (I : Inv X pins σ H s) : H s.heap.objs.size = none := I.hok.fresh (g0o _)
theorem Inv.lstM (I : Inv X pins σ H s) (hH : H l = some (.lst xs)) : xs.length <= sizeLine /\ ∃ (its : List Value) (n : Nat), xk xs its /\ xs.length = its.length /\ s.heap.get? l = some { cls := .type "list", data := .seq its.toArray n } := by
 obtain ⟨z, its, n, r, e⟩ := I.hok l _ hH
 exact ⟨z, its, n, r, r.length, e⟩
end
section
variable {X : Cx}
def G9 : V -> List V -> Hp -> VK -> Prop := fun x vs H Q => ∃ l xs y, x = .ref l /\ vs = [y] /\ H l = some (.lst xs) /\ xs.length < sizeLine /\ Q .non (upd H l (.lst (xs ++ [y])))
theorem kB : MtM X "list.append" G9 := by
 intro pins s σ H x vs v us Q I rx rv h
 obtain ⟨l, xs, y, rfl, rfl, hH, hz, q⟩ := h
 cases rx
 obtain ⟨u, rfl, ru⟩ := rv.one
 obtain ⟨z, its, n, r, hl, e⟩ := I.lstM hH
 refine call_meets F.slot_list_append ⟨_, e, rfl⟩ F.entry_list_append (F.args_list_append_2 _ _) (PySem.list_append l its.toArray n u (by rw [g0u]; omega)) ⟨e, ?_⟩
 refine ⟨.non, _, I.lset (its' := its ++ [u]) hH e (by simp) (r.append (.cons ru .nil)) ?_, rfl, q⟩
 rw [g0f, g1p]
 omega
theorem HP {α : Type} (xs : List α) (k : Nat) : (g0i k xs).flatten.length = k * xs.length := by
 induction k with
 | zero => simp
 | succ k ih => rw [g1r, g2k, g0f, ih, Nat.succ_mul, Nat.add_comm]
end
section
variable {prog : Program} {w : World} {A : Around} {E : Value -> Shared -> Prop} {s : Shared}
end
section
variable {X : Cx}
end
section
variable {κ : Type} [DecidableEq κ]
end
section
variable {P : Program} {w : World} {H : Hp} {h : Heap} {a : Addr}
end
section
variable {X : Cx} {pins : List (Addr × Obj)} {σ : St} {H : Hp} {s : Shared} {a : Addr} {y v : V} {u r : Value} {o : Option V} {A : Around} {E : Value -> Shared -> Prop}
end
section
variable {X : Cx} {pins : List (Addr × Obj)} {σ : St} {H : Hp} {s : Shared} {a : Addr} {kvs : List (Key × V)} {k : Key} {u : Value} {A : Around} {E : Value -> Shared -> Prop}
end
def Mp (i : Expr) : Prop := ∀ ov iv, subscripted i false ov iv = operate [ov, iv] (getItem ov iv)
theorem GU {prog : Program} {w : World} {A : Around} {E : Value -> Shared -> Prop} {s : Shared} {env : Env} {value slice : Expr} {pos : Pos} {T id : String} {Q : Value -> Shared -> Prop}
  (hl : typeLookup (.type T) "__getitem__" = pure (some (.builtin id))) (hs : Mp slice)
  (h : wpAny (model prog w) A (eval value env) (fun o s₁ => wpAny (model prog w) A (eval slice env) (fun i s₂ => s₂.TypeIs o T /\ wpAny (model prog w) A (getItem o i) Q E s₂) E s₁) E s) :
  wpAny (model prog w) A (eval (.Subscript value slice pos) env) Q E s := by
 refine Subscript_ (wpAny_mono h (fun o s₁ h₁ => wpAny_mono h₁ (fun i s₂ h₂ => ?_) fun _ _ x => x) fun _ _ x => x)
 obtain ⟨hT, h₂⟩ := h₂
 unfold subscriptTail
 refine wpAny_bind ?_
 rw [getitemInPython_of_ne hT.not_modules]
 refine wpAny_bind (wpAny_specialOf hT hl ?_)
 have fin : wpAny (model prog w) A (subscripted slice false o i) (fun r s₃ => wpAny (model prog w) A (letTemporaryGo value o r >>= fun _ => pure r) Q E s₃) E s₂ := by
  rw [hs o i]
  exact wpAny_operating (wpAny_mono h₂ (fun r s₃ h₃ => wpAny_bind (wpAny_letTemporaryGo (wpAny_pure h₃))) fun _ _ x => x)
 first
  | exact wpAny_pure (wpAny_bind fin)
  | exact wpAny_bind (wpAny_pure (wpAny_bind fin))
  | exact wpAny_bind fin
section
variable {X : Cx} {o i e value : Expr} {pos pos' tpos : Pos} {td ty tv : TE}
end
section
variable {X : Cx} {pos : Pos}
end
section
variable {X : Cx} {pins : List (Addr × Obj)} {σ : St} {H : Hp} {s : Shared} {a : Addr} {y d : V} {u r : Value} {o : Option V} {A : Around} {E : Value -> Shared -> Prop}
end
section
variable {X : Cx} {o e f : Expr} {apos cpos : Pos} {td ty tx : TE}
end
section
variable {X : Cx} {pins : List (Addr × Obj)} {σ : St} {H : Hp} {s : Shared} {a : Addr} {kvs : List (Key × V)} {A : Around} {E : Value -> Shared -> Prop}
end
section
variable {X : Cx} {pins : List (Addr × Obj)} {σ : St} {H : Hp} {s : Shared} {a : Addr} {y : V} {u : Value} {A : Around} {E : Value -> Shared -> Prop}
end
end L2
namespace Att
open PySem PySem.W PySem.Calls PyProof.Rows
theorem kI {P : Params} {h : Heap} : ∀ (ns : List Int) (vs : List Value), WellAll P h vs (ns.map WData.int) -> IntsAre vs ns := by
 intro ns
 induction ns with
 | nil =>
  intro vs w
  rw [g0q] at w
  cases w
  exact .nil
 | cons n ns ih =>
  intro vs w
  rw [g0j] at w
  cases w with
  | cons a b =>
   cases a
   exact .cons _ _ (ih _ b)
theorem UU {l : OpenLaw} {n : Nat} (hn : l.most = some n) {P : Params} {h : Heap} {args : List WData} {vals : List Value}
  (hpre : l.row.toRowW.claim.pre args = true) (hwl : WellAll P h vals args) :
  ∃ a vs ns, vals = [Value.ref a] /\ args = [WData.list (ns.map WData.int)] /\ h.get? a = some { cls := .type "list", data := .seq vs.toArray } /\ IntsAre vs ns /\ ns.length <= n := by
 have hsh : WShape.hasAll [] args [.list .int] = true := (pre_splitW hpre).1
 have hc : l.pre.holds [] { args := args } = true := (pre_splitW hpre).2
 obtain ⟨d, r, rfl, h1, h2⟩ := hasAllW_cons hsh
 obtain rfl := hasAllW_nil h2
 obtain ⟨xs, rfl, h3⟩ := hasW_list h1
 obtain ⟨ns, rfl⟩ := items_int h3
 have hlen : ns.length <= n := by
  unfold OpenLaw.pre at hc
  have h4 : (WTm.not (.lt (.lit (.int (n : Int))) (.len (.arg 0)))).holds [] { args := [.list (ns.map .int)] } = true := by
   have h4 := (holds_andW hc).1
   rw [hn] at h4
   exact h4
  have h5 := condW_of h4 (w_not (w_lt w_lit (w_len_list (w_arg rfl))))
  rw [g1l] at h5
  refine Nat.le_of_not_lt fun q => ?_
  have q' : (n : Int) < ((ns.length : Nat) : Int) := by omega
  first
   | (rw [decide_eq_true q'] at h5; exact absurd h5 (by decide))
   | (simp at h5; omega)
 cases hwl with
 | cons w1 w2 =>
  cases w2
  cases w1 with
  | list ho hall => exact ⟨_, _, ns, rfl, rfl, ho, kI ns _ hall, hlen⟩
theorem Qc (l : OpenLaw) (args : List WData) : l.row.toRowW.claim.post args (.bool true) args = true :=
 postW_of (r := l.row.toRowW) (X := (true == true))
  (show WShape.has [] (.bool true) .bool = true by first | rfl | decide | simp [WShape.has, WShape.arms, WShape.armsAll])
  (show (WTm.eq .res (.lit (.bool true))).value [] { args := args, res := some (.bool true), after := args } = some (.bool (true == true)) from w_eq_bool (w_res rfl) w_lit) rfl
theorem attach_call {l : OpenLaw} {n : Nat} {q : Program} {loose : List Str} {XP : (Str -> Option Value) -> Heap -> Prop} {YP : World -> Heap -> Prop} {d : DefRec}
  (hn : l.most = some n) (hdf : d.params.defaults = [])
  (call : ∀ (w : World) (s₀ s₁ : Shared) (mg mb : Str -> Option Value) (fa : Addr) (o : Obj) (pm cd doc : Value) (a : Addr) (vs : List Value) (ns : List Int),
   Ground q loose [] XP w s₀ mg mb s₁.heap -> YP w s₁.heap →
   s₁.heap.get? fa = some o -> o.data = .func (docDef d.name d.params d.body d.scope pm cd doc) -> s₁.heap.CodeRec cd d.name -> mg d.name = some (.ref fa) →
   s₁.heap.get? a = some { cls := .type "list", data := .seq vs.toArray } -> IntsAre vs ns -> ns.length <= n -> s₁.gens = #[] →
   codeAny (model l.prog w) callerA (.call (.ref fa) ⟨[.ref a], []⟩) (fun r s' => r = .ok (.ret (.bool true)) /\ OldK s₁.heap s'.heap /\ s'.os = s₁.os /\ AllBare s'.gens) s₁) :
  WalkO q loose XP YP l.row.toRowW d [] (fun f vs => PySem.call f vs) := by
 intro w s₀ s₁ mg mb G Y fa o pm cd doc dV kV ho hd hcd hD hmg hg args vals as hpre hlay hrd hwl hlo
 obtain rfl : dV = .none := Dflts.none hD hdf
 obtain rfl : kV = .none := Dflts.noKw hD
 obtain ⟨a, vs, ns, rfl, rfl, hobj, hints, hlen⟩ := UU hn hpre hwl
 refine enter_call (codeAny_mono (call w s₀ s₁ mg mb fa o pm cd doc a vs ns G Y ho (fd_plain hd) hcd hmg hobj hints hlen hg) fun r s' hq => ?_)
 obtain ⟨rfl, h2, h3, h4⟩ := hq
 exact ⟨.inl ⟨.bool true, .bool true, [], rfl, fun _ => rfl, .bool true, Qc l _, fun _ => ⟨List.Pairwise.nil, fun _ hm => (nomatch hm)⟩⟩, h2, h3, h4⟩
section
variable {prog : Program} {w : World} {A : Around} {E : Value -> Shared -> Prop} {s : Shared} {K : Frag}
def Mi (h : Heap) (L d : Addr) : List (Addr × Obj) := (g1f h.objs.size).filterMap fun a => if a = L \/ a = d then none else (h.get? a).map fun o => (a, o)
end
end Att
namespace L2
open PySem PySem.Spec PyProof.Rows
theorem YW : ∀ {vs : List Value} {ns : List Int}, IntsAre vs ns -> xk (ns.map V.int) vs
 | _, _, .nil => .nil
 | _, _, .cons n t h => .cons ⟨t, rfl⟩ (YW h)
def Dx (H : Hp) : Prop := ∀ b, H b = none \/ ∃ o xs, H b = some (.frz o (.lst xs))
theorem Kx {P : Program} {w : World} {K : W.Frag} {mg mb : Str -> Option Value} {CX : CXT} {k : Nat} {fa a : Addr} {fd : FuncData} {x : Str} {sp : Sp} {s₁ : Shared} {vs : List Value} {ns : List Int}
  (KX : K.In s₁.heap) (hns : s₁.heap.Ns mainGlobals mg) (hb : s₁.heap.Ns builtinsNs mb) (hbb : ∀ x : Str, x ≠ "__name__" -> mb x = bootBuiltins x) (hlim : s₁.heap.NoLimit) (hg : s₁.gens = #[])
  (ha : s₁.heap.get? a = some { cls := .type "list", data := .seq vs.toArray }) (hi : IntsAre vs ns) (hl : ns.length <= sizeLine) (hr : Room k callerA)
  (F : ∀ base : Heap, K.In base -> base.Ns mainGlobals mg -> FnOk P w K mg base CX k fa fd [x] sp) (hbind : ∀ (s : Shared) (u : Value), BindsTo s fd ⟨[u], []⟩ [(x, u)])
  (hsp : ∀ H : Hp, Dx H -> SqL K H a (ns.map V.int) -> sp [.ref a] H (fun v _ => v = .bl true) fun _ _ _ => False)
  (hCX : ∀ H e s', CX [] H s₁ (fun _ _ _ => False) e s' -> False) :
  codeAny (model P w) callerA (.call (.ref fa) ⟨[.ref a], []⟩) (fun r s' => r = .ok (.ret (.bool true)) /\ OldK s₁.heap s'.heap /\ s'.os = s₁.os /\ AllBare s'.gens) s₁ := by
 have rv := YW hi
 have lenV := hi.length
 have core : ∀ H : Hp, Dx H -> SqL K H a (ns.map V.int) -> HOk P w H s₁.heap -> (∀ b, H b ≠ none -> b = a) -> (H a ≠ none -> K.lookup a = none) →
   codeAny (model P w) callerA (.call (.ref fa) ⟨[.ref a], []⟩) (fun r s' => r = .ok (.ret (.bool true)) /\ OldK s₁.heap s'.heap /\ s'.os = s₁.os /\ AllBare s'.gens) s₁ := by
  intro H hO hS hok hA hK
  have base_of : ∀ {b : Addr} {o : Obj}, s₁.heap.get? b = some o -> H b = none -> (KD s₁.heap H).get? b = some o := fun e n => KC e n
  have noA : ∀ {b : Addr} {o : Obj} {es : Array DictEntry} {ep : Nat}, s₁.heap.get? b = some o -> o.data = .dict es ep -> H b = none := fun {b o es ep} e d => by
   cases q : H b with
   | none => rfl
   | some u =>
    have e' : b = a := hA b (by rw [q]; simp)
    subst e'
    rw [ha] at e; cases e
    have d' : Data.seq vs.toArray _ = Data.dict es ep := d
    cases d'
  have nsK : ∀ {b : Addr} {m : Str -> Option Value}, s₁.heap.Ns b m -> (KD s₁.heap H).Ns b m := fun {b m} ⟨o, es, ep, e, d, r⟩ => ⟨o, es, ep, base_of e (noA e d), d, r⟩
  have hKb : K.In (KD s₁.heap H) := fun b o e => base_of (KX b o e) (by
   cases q : H b with
   | none => rfl
   | some u =>
    have e' : b = a := hA b (by rw [q]; simp)
    subst e'
    rw [hK (by rw [q]; simp)] at e; cases e)
  have hM : Mod K mg (KD s₁.heap H) := ⟨hKb, nsK hns, ⟨mb, nsK hb, hbb⟩, let ⟨mc, h1, h2⟩ := hlim; ⟨mc, nsK h1, h2⟩⟩
  have e0 : Env0 P w K mg (KD s₁.heap H) callerA [] s₁ H := ⟨rfl, hM, fun b o e => Hz e, Nat.le_of_eq (Q1 _ _), trivial, fun b hb => absurd (show b ∈ ([] : List Addr) from hb) (by simp), hok, .of_eq hg⟩
  refine codeAny_mono ((F _ hKb (nsK hns)).run callerA [] s₁ H ⟨[.ref a], []⟩ [.ref a] [.ref a] _ _ hr e0 (hbind s₁ (.ref a)) (.cons rfl .nil) (hsp H hO hS)) fun r s' h => ?_
  cases r with
  | error e => exact (hCX H e s' h).elim
  | ok fl =>
   cases fl with
   | next => exact False.elim h
   | brk => exact False.elim h
   | cont => exact False.elim h
   | ret u =>
    obtain ⟨v, H', os, bare, un, hok', r', q⟩ := h
    have q' : v = .bl true := q
    subst q'
    obtain rfl : u = Value.bool true := r'
    refine ⟨rfl, OldK.of_keep fun b o e => ?_, os, bare⟩
    cases q : H b with
    | none => exact un.keep b o e q (by intro z; exact absurd (show b ∈ ([] : List Addr) from z) (by simp)) (by simp)
    | some u =>
     rcases hO b with z | ⟨ob, xs, z⟩
     ·rw [q] at z; cases z
     ·have z2 := un.frzs b ob _ z
      obtain ⟨e1, _⟩ := hok b _ z
      obtain ⟨e2, _⟩ := hok' b _ z2
      rw [e] at e1; cases e1
      exact e2
 cases hk : K.lookup a with
 | some o =>
  have e := KX a o hk
  rw [ha] at e
  cases e
  refine core (fun _ => none) (fun _ => .inl rfl) (.inr ⟨_, vs.toArray, _, hk, rfl, rfl, rfl, by rw [g0u, lenV]; exact hl, by simpa using rv⟩) (fun b u z => by have z' : (none : Option HO) = some u := z; cases z') (fun b z => absurd rfl z) fun z => absurd rfl z
 | none =>
  refine core (fun b => if b = a then some (.frz { cls := .type "list", data := .seq vs.toArray } (.lst (ns.map V.int))) else none) (fun b => ?_) (.inl (.inr ⟨{ cls := .type "list", data := .seq vs.toArray }, if_pos rfl⟩)) (fun b u z => ?_) (fun b z => ?_) fun _ => hk
  ·by_cases hb : b = a
   ·exact .inr ⟨_, _, if_pos hb⟩
   ·exact .inl (if_neg hb)
  ·by_cases hb : b = a
   ·have z' := (if_pos hb).symm.trans z
    cases z'
    subst hb
    exact ⟨ha, by rw [g1l]; exact hl, vs, _, rv, ha⟩
   ·have z' := (if_neg hb).symm.trans z
    cases z'
  ·by_cases hb : b = a
   ·exact hb
   ·exact absurd (if_neg hb) z
theorem GP {l : W.OpenLaw} {n k : Nat} {q : Program} {loose : List Str} {XP : (Str -> Option Value) -> Heap -> Prop} {YP : World -> Heap -> Prop} {d : DefRec} {K : Params -> W.Frag} {CX : World -> CXT} {sp : World -> Sp} {x : Str}
  (hn : l.most = some n) (hn2 : n <= sizeLine) (hdf : d.params.defaults = []) (hr : Room k callerA)
  (hY : ∀ (w : World) (h : Heap), YP w h -> (K w.params).In h)
  (F : ∀ (w : World) (mg : Str -> Option Value) (fa : Addr) (h : Heap), (K w.params).In h -> h.Ns mainGlobals mg -> mg d.name = some (.ref fa) →
   ∃ fd : FuncData, (∀ (s : Shared) (u : Value), BindsTo s fd ⟨[u], []⟩ [(x, u)]) ∧
    ∀ base : Heap, (K w.params).In base -> base.Ns mainGlobals mg -> FnOk l.prog w (K w.params) mg base (CX w) k fa fd [x] (sp w))
  (hsp : ∀ (w : World) (H : Hp) (a : Addr) (ns : List Int), ns.length <= n -> Dx H -> SqL (K w.params) H a (ns.map V.int) -> sp w [.ref a] H (fun v _ => v = .bl true) fun _ _ _ => False)
  (hCX : ∀ (w : World) (H : Hp) (s : Shared) (e : Value) (s' : Shared), CX w [] H s (fun _ _ _ => False) e s' -> False) :
  PySem.W.WalkO q loose XP YP l.row.toRowW d [] (fun f vs => PySem.call f vs) := by
 refine Att.attach_call hn hdf fun w s₀ s₁ mg mb fa o pm cd doc a vs ns G Y ho hd hcd hmg hobj hints hlen hg => ?_
 have KX := hY w _ Y
 obtain ⟨fd, hb, hF⟩ := F w mg fa _ KX G.T.g hmg
 exact Kx KX G.T.g G.T.b G.T.builtins G.T.nolimit hg hobj hints (g1y hlen hn2) hr hF hb (fun H hO hS => hsp w H a ns hlen hO hS) fun H e s' => hCX w H s₁ e s'
theorem walk_ofK {l : W.OpenLaw} {n k : Nat} {q : Program} {loose : List Str} {XP : (Str -> Option Value) -> Heap -> Prop} {YP : World -> Heap -> Prop} {d : DefRec} {K : Params -> W.Frag} {CX : CXT} {sp : W.Frag -> Sp} {x : Str}
  (hn : l.most = some n) (hn2 : n <= sizeLine) (hdf : d.params.defaults = []) (hr : Room k callerA)
  (hY : ∀ (w : World) (h : Heap), YP w h -> (K w.params).In h)
  (F : ∀ (w : World) (mg : Str -> Option Value) (fa : Addr) (h : Heap), (K w.params).In h -> h.Ns mainGlobals mg -> mg d.name = some (.ref fa) →
   ∃ fd : FuncData, (∀ (s : Shared) (u : Value), BindsTo s fd ⟨[u], []⟩ [(x, u)]) ∧
    ∀ base : Heap, (K w.params).In base -> base.Ns mainGlobals mg -> FnOk l.prog w (K w.params) mg base CX k fa fd [x] (sp (K w.params)))
  (hsp : ∀ (K : W.Frag) (H : Hp) (a : Addr) (ns : List Int), ns.length <= n -> Dx H -> SqL K H a (ns.map V.int) -> sp K [.ref a] H (fun v _ => v = .bl true) fun _ _ _ => False)
  (hCX : ∀ (H : Hp) (s : Shared) (e : Value) (s' : Shared), CX [] H s (fun _ _ _ => False) e s' -> False) :
  PySem.W.WalkO q loose XP YP l.row.toRowW d [] (fun f vs => PySem.call f vs) :=
 GP (K := K) (CX := fun _ => CX) (sp := fun w => sp (K w.params)) hn hn2 hdf hr hY F (fun w H a ns h1 h2 h3 => hsp (K w.params) H a ns h1 h2 h3) fun _ H s e s' => hCX H s e s'
def Yq (s : Stmt) (j : Nat) : Stmt := match s with
 | .ClassDef _ _ _ body _ _ _ _ _ _ _ => body.getD j (.Pass ⟨0, 0, 0, 0⟩)
 | _ => .Pass ⟨0, 0, 0, 0⟩
def zH (s : Stmt) : Arguments := match s with
 | .FunctionDef _ a _ _ _ _ _ _ _ _ => a
 | _ => { posonlyargs := [], args := [], vararg := none, kwonlyargs := [], kw_defaults := [], kwarg := none, defaults := [] }
def zE (s : Stmt) : List Stmt := match s with
 | .FunctionDef _ _ b _ _ _ _ _ _ _ => b
 | _ => []
def ze (s : Stmt) : Scope := match s with
 | .FunctionDef _ _ _ _ _ _ sc _ _ _ => sc
 | _ => { kind := .function, names := [], isGenerator := false, isCoroutine := false }
abbrev CX0 : CXT := fun _ _ _ _ _ _ => False
abbrev E0 : XK := fun _ _ _ => False
theorem jS {X : Cx} : jO CX0 X E0 := fun _ _ _ _ _ _ _ h => h.elim
structure Fun (K : W.Frag) (x qual : Str) (st : Stmt) (f : Addr) (fd : FuncData) : Prop where
 ex : ∃ (oc : Value) (od : Option Addr) (kV doc pm : Value) (an : Option Addr) (cdv ct : Value) (osl : Array (Option Value)),
  fd = W.fnOf x qual (zH st) (zE st) (ze st) .none kV doc pm an cdv ct /\ K.lookup f = some ⟨oc, od, .func fd, osl⟩ /\ W.codeIn K cdv qual = true
 kp : W.keepIn K (.ref f) = true
section
variable {P : Program} {w : World} {K : W.Frag} {mg : Str -> Option Value} {base : Heap}
theorem Fun.ok {x qual : Str} {st : Stmt} {f : Addr} {fd : FuncData} {N ps : List Str} {k : Nat} {sp : Sp} (F : Fun K x qual st f fd) (S : FnScope N ps (ze st)) (len : ∀ vs H Q E, sp vs H Q E -> vs.length = ps.length)
  (Q2 : ∀ (cdv : Value) (A : Around) (outer : List Env) (s : Shared) (H : Hp) (vs : List V) (Q : VK) (E : XK), Room k (A.deeper (envOfC qual (ze st) s.heap.objs.size f cdv)) -> sp vs H Q E →
   ∃ t, PSs (K1 CX0 P w K mg base N qual (ze st) f cdv A outer s H E).nox (zE st) t /\ t { nx := fun _ H' => Q .non H', rt := Q } (start N vs) H) : FnOk P w K mg base CX0 (k + 1) f fd ps sp := by
 obtain ⟨oc, od, kV, doc, pm, an, cdv, ct, osl, rfl, lk, hcd⟩ := F.ex
 refine Fp lk hcd S len fun A outer s H vs Q E hr hsp => ?_
 obtain ⟨t, h, q⟩ := Q2 cdv A outer s H vs Q E hr hsp
 exact ⟨t, h.nox, q⟩
theorem Fun.binds {x qual : Str} {st : Stmt} {f : Addr} {fd : FuncData} {ps : List Str} (F : Fun K x qual st f fd)
  (h : ∀ (kV doc pm : Value) (an : Option Addr) (cdv ct : Value) (us : List Value), us.length = ps.length -> bindArgs (W.fnOf x qual (zH st) (zE st) (ze st) .none kV doc pm an cdv ct) ⟨us, []⟩ = pure (ps.zip us)) : uo K fd ps [] := by
 obtain ⟨oc, od, kV, doc, pm, an, cdv, ct, osl, rfl, lk, hcd⟩ := F.ex
 exact .all (h kV doc pm an cdv ct)
theorem yi {x qual : Str} {st : Stmt} {f : Addr} {oc : Value} {od an : Option Addr} {osl : Array (Option Value)} {kV doc pm cdv ct : Value} (l : K.lookup f = some ⟨oc, od, .func (W.fnOf x qual (zH st) (zE st) (ze st) .none kV doc pm an cdv ct), osl⟩)
  (c : W.codeIn K cdv qual = true) (k : W.keepIn K (.ref f) = true) : Fun K x qual st f (W.fnOf x qual (zH st) (zE st) (ze st) .none kV doc pm an cdv ct) := ⟨⟨oc, od, kV, doc, pm, an, cdv, ct, osl, rfl, l, c⟩, k⟩
end
theorem vJ {n : Nat} (h : n <= 1000) : n < sizeLine := g3g h (by decide)
section
variable {X : Cx}
theorem pv (i : Nat) {x : Str} {pos : Pos} (hN : X.N[i]? = some x := by rfl) (hv : Vis X.env.scope x := by first | exact Or.inl rfl | exact Or.inr (Or.inl rfl) | exact Or.inr (Or.inr rfl)) (hd : (x == ("__debug__" : Str)) = false := by decide)
  (hcd : (x == ("__classdict__" : Str)) = false := by decide) : PE X (.Name x pos) (FH i) := Ve hN hv hd hcd
end
theorem Kz {A B : Prop} (h : B) : if false = true then A else B := by
 rw [if_neg g1q]
 exact h
theorem Ky {A B : Prop} (h : A) : if true = true then A else B := by
 rw [if_pos rfl]
 exact h
def yp (H H' : Hp) : Prop := ∀ b o, H b = some o -> H' b = some o
theorem yp.trans {H H1 H2 : Hp} (a : yp H H1) (b : yp H1 H2) : yp H H2 := fun c o h => b c o (a c o h)
theorem yp.free {H H' : Hp} (e : yp H H') {l : Addr} (h : H' l = Option.none) : H l = Option.none := by
 cases q : H l with
 | none => rfl
 | some o =>
  rw [e l o q] at h
  cases h
theorem yp.seq {K : W.Frag} {H H' : Hp} {a : Addr} {xs : List V} (e : yp H H') (h : SqL K H a xs) : SqL K H' a xs := by
 rcases h with (h | ⟨o, h⟩) | h
 ·exact .inl (.inl (e _ _ h))
 ·exact .inl (.inr ⟨o, e _ _ h⟩)
 ·exact .inr h
section
variable {κ : Type} [DecidableEq κ]
end
end L2
set_option maxHeartbeats 4000000
namespace FL
open PySem PySem.Spec PyProof.Rows L2
abbrev St := L2.St
inductive D where
 | non
 | bl (b : Bool)
 | int (i : Int)
 | str (x : Str)
 | tup (ds : List D)
 | lst (ds : List D)
 deriving Inhabited
mutual
def Has (K : W.Frag) (H : Hp) : D -> V -> Prop
 | .non, v => v = .non
 | .bl b, v => v = .bl b
 | .int i, v => v = .int i
 | .str x, v => v = .str x
 | .tup ds, v => ∃ a xs, v = .ref a /\ SqT K H a xs /\ z7 K H ds xs
 | .lst ds, v => ∃ a xs, v = .ref a /\ SqL K H a xs /\ z7 K H ds xs
def z7 (K : W.Frag) (H : Hp) : List D -> List V -> Prop
 | [], xs => xs = []
 | d :: ds, xs => ∃ x r, xs = x :: r /\ Has K H d x /\ z7 K H ds r
end
theorem zv {H : Hp} : yp H H := fun _ _ e => e
theorem ux {K : W.Frag} {H H' : Hp} {a : Addr} {xs : List V} (e : yp H H') (h : SqT K H a xs) : SqT K H' a xs := by
 rcases h with (h | ⟨o, h⟩) | h
 ·exact .inl (.inl (e _ _ h))
 ·exact .inl (.inr ⟨o, e _ _ h⟩)
 ·exact .inr h
section
variable {K : W.Frag} {H H' : Hp}
mutual
theorem Has.mono (s : yp H H') : ∀ {d : D} {v : V}, Has K H d v -> Has K H' d v
 | .non, _, h => by unfold Has at h ⊢; exact h
 | .bl _, _, h => by unfold Has at h ⊢; exact h
 | .int _, _, h => by unfold Has at h ⊢; exact h
 | .str _, _, h => by unfold Has at h ⊢; exact h
 | .tup ds, v, h => by
  unfold Has at h ⊢
  obtain ⟨a, xs, e, q, l⟩ := h
  exact ⟨a, xs, e, ux s q, z7.mono s l⟩
 | .lst ds, v, h => by
  unfold Has at h ⊢
  obtain ⟨a, xs, e, q, l⟩ := h
  exact ⟨a, xs, e, s.seq q, z7.mono s l⟩
theorem z7.mono (s : yp H H') : ∀ {ds : List D} {xs : List V}, z7 K H ds xs -> z7 K H' ds xs
 | [], _, h => by unfold z7 at h ⊢; exact h
 | d :: ds, xs, h => by
  unfold z7 at h ⊢
  obtain ⟨x, r, e, h1, h2⟩ := h
  exact ⟨x, r, e, Has.mono s h1, z7.mono s h2⟩
end
theorem Has.non_iff {v : V} : Has K H .non v ↔ v = .non := by unfold Has; rfl
theorem Has.bl_iff {b : Bool} {v : V} : Has K H (.bl b) v ↔ v = .bl b := by unfold Has; rfl
theorem Has.int_iff {i : Int} {v : V} : Has K H (.int i) v ↔ v = .int i := by unfold Has; rfl
theorem Has.str_iff {x : Str} {v : V} : Has K H (.str x) v ↔ v = .str x := by unfold Has; rfl
theorem Has.tup_iff {ds : List D} {v : V} : Has K H (.tup ds) v ↔ ∃ a xs, v = .ref a /\ SqT K H a xs /\ z7 K H ds xs := by
 constructor
 ·intro h; unfold Has at h; exact h
 ·intro h; unfold Has; exact h
theorem Has.lst_iff {ds : List D} {v : V} : Has K H (.lst ds) v ↔ ∃ a xs, v = .ref a /\ SqL K H a xs /\ z7 K H ds xs := by
 constructor
 ·intro h; unfold Has at h; exact h
 ·intro h; unfold Has; exact h
theorem z7.nil_iff {xs : List V} : z7 K H [] xs ↔ xs = [] := by unfold z7; rfl
theorem z7.cons_iff {d : D} {ds : List D} {xs : List V} : z7 K H (d :: ds) xs ↔ ∃ x r, xs = x :: r /\ Has K H d x /\ z7 K H ds r := by
 constructor
 ·intro h; unfold z7 at h; exact h
 ·intro h; unfold z7; exact h
theorem z7.nil : z7 K H [] [] := z7.nil_iff.mpr rfl
theorem z7.cons {d : D} {ds : List D} {x : V} {xs : List V} (h : Has K H d x) (t : z7 K H ds xs) : z7 K H (d :: ds) (x :: xs) := z7.cons_iff.mpr ⟨x, xs, rfl, h, t⟩
theorem z7.length : ∀ {ds : List D} {xs : List V}, z7 K H ds xs -> xs.length = ds.length
 | [], _, h => by rw [z7.nil_iff] at h; subst h; rfl
 | d :: ds, xs, h => by
  obtain ⟨x, r, e, _, h2⟩ := z7.cons_iff.mp h
  subst e
  simp [z7.length h2]
theorem z7.get : ∀ {ds : List D} {xs : List V} {i : Nat} {d : D}, z7 K H ds xs -> ds[i]? = some d -> ∃ v, xs[i]? = some v /\ Has K H d v
 | [], _, _, _, _, e => by simp at e
 | d :: ds, xs, i, d', h, e => by
  obtain ⟨x, r, e', h1, h2⟩ := z7.cons_iff.mp h
  subst e'
  cases i with
  | zero => simp at e; subst e; exact ⟨x, rfl, h1⟩
  | succ i =>
   obtain ⟨v, q1, q2⟩ := z7.get (i := i) (d := d') h2 (by simpa using e)
   exact ⟨v, by simpa using q1, q2⟩
theorem z7.append : ∀ {ds es : List D} {xs ys : List V}, z7 K H ds xs -> z7 K H es ys -> z7 K H (ds ++ es) (xs ++ ys)
 | [], _, _, _, h, h' => by rw [z7.nil_iff] at h; subst h; exact h'
 | d :: ds, es, xs, ys, h, h' => by
  obtain ⟨x, r, e, h1, h2⟩ := z7.cons_iff.mp h
  subst e
  exact .cons h1 (z7.append h2 h')
theorem z7.drop : ∀ {ds : List D} {xs : List V} (n : Nat), z7 K H ds xs -> z7 K H (ds.drop n) (xs.drop n)
 | _, _, 0, h => by simpa using h
 | [], _, n + 1, h => by rw [z7.nil_iff] at h; subst h; simpa using z7.nil
 | d :: ds, xs, n + 1, h => by
  obtain ⟨x, r, e, h1, h2⟩ := z7.cons_iff.mp h
  subst e
  exact z7.drop n h2
theorem z7.take : ∀ {ds : List D} {xs : List V} (n : Nat), z7 K H ds xs -> z7 K H (ds.take n) (xs.take n)
 | _, _, 0, h => by simpa using z7.nil
 | [], _, n + 1, h => by rw [z7.nil_iff] at h; subst h; simpa using z7.nil
 | d :: ds, xs, n + 1, h => by
  obtain ⟨x, r, e, h1, h2⟩ := z7.cons_iff.mp h
  subst e
  exact .cons h1 (z7.take n h2)
theorem z7.reverse {ds : List D} {xs : List V} (h : z7 K H ds xs) : z7 K H ds.reverse xs.reverse := by
 induction ds generalizing xs with
 | nil => rw [z7.nil_iff] at h; subst h; exact z7.nil
 | cons d ds ih =>
  obtain ⟨x, r, e, h1, h2⟩ := z7.cons_iff.mp h
  subst e
  rw [g2f, g2f]
  exact (ih h2).append (.cons h1 .nil)
theorem z7.ints : ∀ (ns : List Int), z7 K H (ns.map D.int) (ns.map V.int)
 | [] => .nil
 | n :: ns => .cons (Has.int_iff.mpr rfl) (z7.ints ns)
end
inductive Slot where
 | no
 | fr (d : D)
 | ol (ds : List D)
 | oT (kvs : List (List Key × D))
 | oK (kvs : List (Key × D))
 deriving Inhabited
def Slot.own : Slot -> Bool
 | .ol _ => true
 | .oT _ => true
 | .oK _ => true
 | _ => false
abbrev Rho := List Slot
def KVs (K : W.Frag) (H : Hp) {κ : Type} : List (κ × D) -> List (κ × V) -> Prop := Paired fun p q => p.1 = q.1 /\ Has K H p.2 q.2
theorem KVs.mono {K : W.Frag} {H H' : Hp} {κ : Type} (s : yp H H') {l : List (κ × D)} {m : List (κ × V)} (h : KVs K H l m) : KVs K H' l m := Paired.mapP h fun _ _ z => ⟨z.1, Has.mono s z.2⟩
def Zo (K : W.Frag) (H Hf : Hp) (a : Addr) : Slot -> Prop
 | .ol ds => ∃ xs, H a = some (.lst xs) /\ z7 K Hf ds xs
 | .oT kvs => ∃ ws, H a = some (.dT ws) /\ KVs K Hf kvs ws
 | .oK kvs => ∃ ws, H a = some (.dK ws) /\ KVs K Hf kvs ws
 | _ => True
theorem Zo.mono {K : W.Frag} {H Hf H' Hf' : Hp} {a : Addr} {sl : Slot} (h : Zo K H Hf a sl) (k : ∀ o, H a = some o -> H' a = some o) (s : yp Hf Hf') : Zo K H' Hf' a sl := by
 cases sl with
 | no => trivial
 | fr d => trivial
 | ol ds => obtain ⟨xs, e, q⟩ := h; exact ⟨xs, k _ e, q.mono s⟩
 | oT kvs => obtain ⟨xs, e, q⟩ := h; exact ⟨xs, k _ e, KVs.mono s q⟩
 | oK kvs => obtain ⟨xs, e, q⟩ := h; exact ⟨xs, k _ e, KVs.mono s q⟩
theorem Zo.there {K : W.Frag} {H Hf : Hp} {a : Addr} {sl : Slot} (h : Zo K H Hf a sl) (ow : sl.own = true) : ∃ o, H a = some o := by
 cases sl with
 | no => cases ow
 | fr d => cases ow
 | ol ds => obtain ⟨xs, e, q⟩ := h; exact ⟨_, e⟩
 | oT kvs => obtain ⟨xs, e, q⟩ := h; exact ⟨_, e⟩
 | oK kvs => obtain ⟨xs, e, q⟩ := h; exact ⟨_, e⟩
def Tp (o : HO) : Prop := ∃ ks : List Key, o = .tup (ks.map kV)
structure Rep (K : W.Frag) (H₀ Hf₀ : Hp) (σ : St) (ρ : Rho) (H Hf : Hp) : Prop where
 s0 : yp H₀ H
 sf : yp Hf H
 nf : ∀ b o, Hf b = some o -> Hf₀ b = some o \/ H₀ b = none \/ Tp o
 f0 : yp Hf₀ Hf
 len : ρ.length = σ.length
 fr : ∀ (i : Nat) (d : D), ρ[i]? = some (.fr d) -> ∃ v, σ[i]? = some (some v) /\ Has K Hf d v
 ow : ∀ (i : Nat) (sl : Slot), ρ[i]? = some sl -> sl.own = true -> ∃ a, σ[i]? = some (some (.ref a)) /\ Zo K H Hf a sl /\ Hf a = none /\ H₀ a = none
 inj : ∀ (i j : Nat) (sl sl' : Slot) (a : Addr), ρ[i]? = some sl -> sl.own = true -> ρ[j]? = some sl' -> sl'.own = true -> σ[i]? = some (some (.ref a)) -> σ[j]? = some (some (.ref a)) -> i = j
theorem Zo.notTp {K : W.Frag} {H Hf H' : Hp} {a : Addr} {sl : Slot} {u : HO} (h : Zo K H Hf a sl) (ow : sl.own = true) (k : ∀ o, H a = some o -> H' a = some o) (z : H' a = some u) (t : Tp u) : False := by
 obtain ⟨ks, rfl⟩ := t
 cases sl with
 | no => cases ow
 | fr d => cases ow
 | ol ds => obtain ⟨xs, e, q⟩ := h; have := (k _ e).symm.trans z; cases this
 | oT kvs => obtain ⟨xs, e, q⟩ := h; have := (k _ e).symm.trans z; cases this
 | oK kvs => obtain ⟨xs, e, q⟩ := h; have := (k _ e).symm.trans z; cases this
section
variable {K : W.Frag} {H₀ Hf₀ : Hp} {σ : St} {ρ : Rho} {H Hf H' Hf' : Hp}
theorem Rep.grow (R : Rep K H₀ Hf₀ σ ρ H Hf) (h1 : yp H H') (h2 : yp Hf Hf') (h3 : yp Hf' H') (h4 : ∀ b o, Hf' b = some o -> Hf b = some o \/ H b = none \/ Tp o) : Rep K H₀ Hf₀ σ ρ H' Hf' where
 s0 := R.s0.trans h1
 sf := h3
 nf := fun b o e => by
  rcases h4 b o e with q | q | q
  ·exact R.nf b o q
  ·exact .inr (.inl (R.s0.free q))
  ·exact .inr (.inr q)
 f0 := R.f0.trans h2
 len := R.len
 fr := fun i d e => by
  obtain ⟨v, q1, q2⟩ := R.fr i d e
  exact ⟨v, q1, q2.mono h2⟩
 ow := fun i sl e o => by
  obtain ⟨a, q1, q2, q3, q4⟩ := R.ow i sl e o
  refine ⟨a, q1, q2.mono (fun o e => h1 _ _ e) h2, ?_, q4⟩
  obtain ⟨ob, qo⟩ := q2.there o
  cases z : Hf' a with
  | none => rfl
  | some u =>
   rcases h4 a u z with y | y | y
   ·rw [q3] at y; cases y
   ·rw [qo] at y; cases y
   ·exact (q2.notTp o (fun o => h1 a o) (h3 _ _ z) y).elim
 inj := R.inj
theorem Rep.lay (R : Rep K H₀ Hf₀ σ ρ H Hf) {p : Addr} {o : HO} (hp : H p = none) : Rep K H₀ Hf₀ σ ρ (upd H p o) (upd Hf p o) := by
 have hfp : Hf p = none := R.sf.free hp
 refine R.grow (fun b u e => ?_) (fun b u e => ?_) (fun b u e => ?_) (fun b u e => ?_)
 ·rw [zw (zL e hp)]; exact e
 ·rw [zw (zL e hfp)]; exact e
 ·by_cases hb : b = p
  ·subst hb; rw [zz] at e ⊢; exact e
  ·rw [zw hb] at e ⊢; exact R.sf b u e
 ·by_cases hb : b = p
  ·subst hb; exact .inr (.inl hp)
  ·rw [zw hb] at e; exact .inl e
theorem Rep.layN (R : Rep K H₀ Hf₀ σ ρ H Hf) {p : Addr} {o : HO} (hp : H p = none) : Rep K H₀ Hf₀ σ ρ (upd H p o) Hf := by
 refine R.grow (fun b u e => ?_) zv (fun b u e => ?_) (fun b u e => .inl e)
 ·rw [zw (zL e hp)]; exact e
 ·rw [zw (zL (R.sf b u e) hp)]; exact R.sf b u e
theorem zY {p : Addr} {o : HO} (hp : H p = none) : yp H (upd H p o) := fun b u e => by rw [zw (zL e hp)]; exact e
theorem Rep.set (R : Rep K H₀ Hf₀ σ ρ H Hf) {d : D} {v : V} (i : Nat) (h : Has K Hf d v) : Rep K H₀ Hf₀ (σ.set i (some v)) (ρ.set i (.fr d)) H Hf where
 s0 := R.s0
 sf := R.sf
 nf := R.nf
 f0 := R.f0
 len := by simp [R.len]
 fr := fun j d' e => by
  rw [g1a] at e ⊢
  by_cases hj : i = j
  ·rw [if_pos hj] at e ⊢
   split at e
   ·cases e
    rename_i hl
    rw [R.len] at hl
    rw [if_pos hl]
    exact ⟨v, rfl, h⟩
   ·cases e
  ·rw [if_neg hj] at e ⊢
   exact R.fr j d' e
 ow := fun j sl e o => by
  rw [g1a] at e ⊢
  by_cases hj : i = j
  ·rw [if_pos hj] at e
   split at e
   ·cases e; cases o
   ·cases e
  ·rw [if_neg hj] at e ⊢
   exact R.ow j sl e o
 inj := fun j k sl sl' a e o e' o' z z' => by
  rw [g1a] at e e' z z'
  by_cases hj : i = j
  ·rw [if_pos hj] at e
   split at e
   ·cases e; cases o
   ·cases e
  ·by_cases hk : i = k
   ·rw [if_pos hk] at e'
    split at e'
    ·cases e'; cases o'
    ·cases e'
   ·rw [if_neg hj] at e z
    rw [if_neg hk] at e' z'
    exact R.inj j k sl sl' a e o e' o' z z'
theorem Rep.setOwn (R : Rep K H₀ Hf₀ σ ρ H Hf) {sl : Slot} {a : Addr} (i : Nat) (ho : sl.own = true) (h : Zo K H Hf a sl) (hf : Hf a = none) (h0 : H₀ a = none)
  (fresh : ∀ (j : Nat) (sl' : Slot), ρ[j]? = some sl' -> sl'.own = true -> σ[j]? ≠ some (some (.ref a))) : Rep K H₀ Hf₀ (σ.set i (some (.ref a))) (ρ.set i sl) H Hf where
 s0 := R.s0
 sf := R.sf
 nf := R.nf
 f0 := R.f0
 len := by simp [R.len]
 fr := fun j d' e => by
  rw [g1a] at e ⊢
  by_cases hj : i = j
  ·rw [if_pos hj] at e
   split at e
   ·cases e; cases ho
   ·cases e
  ·rw [if_neg hj] at e ⊢
   exact R.fr j d' e
 ow := fun j sl' e o => by
  rw [g1a] at e ⊢
  by_cases hj : i = j
  ·rw [if_pos hj] at e ⊢
   split at e
   ·cases e
    rename_i hl
    rw [R.len] at hl
    rw [if_pos hl]
    exact ⟨a, rfl, h, hf, h0⟩
   ·cases e
  ·rw [if_neg hj] at e ⊢
   exact R.ow j sl' e o
 inj := fun j k s1 s2 b e o e' o' z z' => by
  rw [g1a] at e e' z z'
  by_cases hj : i = j
  ·by_cases hk : i = k
   ·omega
   ·rw [if_pos hj] at z
    rw [if_neg hk] at e' z'
    split at z
    ·cases z
     exact absurd z' (fresh k s2 e' o')
    ·cases z
  ·by_cases hk : i = k
   ·rw [if_pos hk] at z'
    rw [if_neg hj] at e z
    split at z'
    ·cases z'
     exact absurd z (fresh j s1 e o)
    ·cases z'
   ·rw [if_neg hj] at e z
    rw [if_neg hk] at e' z'
    exact R.inj j k s1 s2 b e o e' o' z z'
theorem Rep.updOwn (R : Rep K H₀ Hf₀ σ ρ H Hf) {sl sl' : Slot} {a : Addr} {o : HO} {i : Nat} (e : ρ[i]? = some sl) (ho : sl.own = true) (ea : σ[i]? = some (some (.ref a))) (ho' : sl'.own = true) (h : Zo K (upd H a o) Hf a sl') :
  Rep K H₀ Hf₀ σ (ρ.set i sl') (upd H a o) Hf := by
 obtain ⟨a', q1, q2, q3, q4⟩ := R.ow i sl e ho
 rw [ea] at q1; cases q1
 have hil : i < ρ.length := (g0y.mp e).1
 refine ⟨fun b u z => ?_, fun b u z => ?_, R.nf, R.f0, by simp [R.len], fun j d z => ?_, fun j s1 z oz => ?_, fun j k s1 s2 b z oz z' oz' y y' => ?_⟩
 ·rw [zw (zL z q4)]; exact R.s0 b u z
 ·rw [zw (zL z q3)]; exact R.sf b u z
 ·rw [g1a] at z
  by_cases hj : i = j
  ·rw [if_pos hj, if_pos hil] at z
   cases z; cases ho'
  ·rw [if_neg hj] at z
   exact R.fr j d z
 ·rw [g1a] at z
  by_cases hj : i = j
  ·rw [if_pos hj, if_pos hil] at z
   cases z
   subst hj
   exact ⟨a, ea, h, q3, q4⟩
  ·rw [if_neg hj] at z
   obtain ⟨b, p1, p2, p3, p4⟩ := R.ow j s1 z oz
   refine ⟨b, p1, p2.mono (fun u q => ?_) zv, p3, p4⟩
   rw [zw]
   ·exact q
   ·rintro rfl
    exact hj (R.inj i j sl s1 b e ho z oz ea p1)
 ·have own_at : ∀ (j : Nat) (s1 : Slot), (ρ.set i sl')[j]? = some s1 -> s1.own = true -> ∃ s2, ρ[j]? = some s2 /\ s2.own = true := fun j s1 z oz => by
   rw [g1a] at z
   by_cases hj : i = j
   ·subst hj; exact ⟨sl, e, ho⟩
   ·rw [if_neg hj] at z; exact ⟨s1, z, oz⟩
  obtain ⟨t1, u1, v1⟩ := own_at j s1 z oz
  obtain ⟨t2, u2, v2⟩ := own_at k s2 z' oz'
  exact R.inj j k t1 t2 b u1 v1 u2 v2 y y'
theorem Rep.freeze (R : Rep K H₀ Hf₀ σ ρ H Hf) {ds : List D} {i : Nat} (e : ρ[i]? = some (.ol ds)) : ∃ Hf', yp Hf Hf' /\ Rep K H₀ Hf₀ σ (ρ.set i (.fr (.lst ds))) H Hf' := by
 obtain ⟨a, q1, ⟨xs, q2, q2'⟩, q3, q4⟩ := R.ow i _ e rfl
 have hil : i < ρ.length := (g0y.mp e).1
 have sm : yp Hf (upd Hf a (.lst xs)) := zY q3
 refine ⟨upd Hf a (.lst xs), sm, R.s0, fun b u z => ?_, fun b u z => ?_, R.f0.trans sm, by simp [R.len], fun j d z => ?_, fun j s1 z oz => ?_, fun j k s1 s2 b z oz z' oz' y y' => ?_⟩
 ·by_cases hb : b = a
  ·subst hb; rw [zz] at z; cases z; exact q2
  ·rw [zw hb] at z; exact R.sf b u z
 ·by_cases hb : b = a
  ·subst hb; exact .inr (.inl q4)
  ·rw [zw hb] at z; exact R.nf b u z
 ·rw [g1a] at z
  by_cases hj : i = j
  ·rw [if_pos hj, if_pos hil] at z
   cases z
   subst hj
   exact ⟨_, q1, Has.lst_iff.mpr ⟨a, xs, rfl, SqL.of zz, q2'.mono sm⟩⟩
  ·rw [if_neg hj] at z
   obtain ⟨v, p1, p2⟩ := R.fr j d z
   exact ⟨v, p1, p2.mono sm⟩
 ·rw [g1a] at z
  by_cases hj : i = j
  ·rw [if_pos hj, if_pos hil] at z
   cases z; cases oz
  ·rw [if_neg hj] at z
   obtain ⟨b, p1, p2, p3, p4⟩ := R.ow j s1 z oz
   refine ⟨b, p1, p2.mono (fun u q => q) sm, ?_, p4⟩
   rw [zw]
   ·exact p3
   ·rintro rfl
    exact hj (R.inj i j _ s1 b e rfl z oz q1 p1)
 ·have own_at : ∀ (j : Nat) (s1 : Slot), (ρ.set i (.fr (.lst ds)))[j]? = some s1 -> s1.own = true -> ρ[j]? = some s1 := fun j s1 z oz => by
   rw [g1a] at z
   by_cases hj : i = j
   ·rw [if_pos hj, if_pos hil] at z
    cases z; cases oz
   ·rw [if_neg hj] at z; exact z
  exact R.inj j k s1 s2 b (own_at j s1 z oz) oz (own_at k s2 z' oz') oz' y y'
end
end FL
namespace FL
open PySem PySem.Spec PyProof.Rows L2
abbrev FE := Rho -> Option D
abbrev FT := Rho -> Option Bool
abbrev FA := Rho -> Option (List D)
inductive Out where
 | nx (ρ : Rho)
 | rt (d : D)
 | bk (ρ : Rho)
 | ct (ρ : Rho)
abbrev FS := Rho -> Option Out
def js (K : W.Frag) (Hf : Hp) (σ : St) (ρ : Rho) (d : D) (v : V) : Prop := Has K Hf d v \/ ∃ (i : Nat) (ds : List D), d = .lst ds /\ ρ[i]? = some (.ol ds) /\ σ[i]? = some (some v)
theorem js.mono {K : W.Frag} {Hf Hf' : Hp} {σ : St} {ρ : Rho} {d : D} {v : V} (h : js K Hf σ ρ d v) (s : yp Hf Hf') : js K Hf' σ ρ d v := h.imp (Has.mono s) id
def tF (K : W.Frag) (f : FE) : TE := fun σ H Q => ∃ H₀ Hf₀ ρ Hf d, Rep K H₀ Hf₀ σ ρ H Hf /\ f ρ = some d ∧
 ∀ v H' Hf', Rep K H₀ Hf₀ σ ρ H' Hf' -> yp H H' -> yp Hf Hf' -> Has K Hf' d v -> Q v H'
def tR (K : W.Frag) (f : FE) : TE := fun σ H Q => ∃ H₀ Hf₀ ρ Hf d, Rep K H₀ Hf₀ σ ρ H Hf /\ f ρ = some d ∧
 ∀ v H' Hf', Rep K H₀ Hf₀ σ ρ H' Hf' -> yp H H' -> yp Hf Hf' -> js K Hf' σ ρ d v -> Q v H'
def tN (K : W.Frag) (f : FA) : TE := fun σ H Q => ∃ H₀ Hf₀ ρ Hf ds, Rep K H₀ Hf₀ σ ρ H Hf /\ f ρ = some ds ∧
 ∀ a xs H' Hf', Rep K H₀ Hf₀ σ ρ H' Hf' -> yp H H' -> yp Hf Hf' -> z7 K Hf' ds xs -> H' a = some (.lst xs) -> Hf' a = none -> H a = none -> Q (.ref a) H'
def tT (K : W.Frag) (f : FT) : TT := fun σ H Q => ∃ H₀ Hf₀ ρ Hf b, Rep K H₀ Hf₀ σ ρ H Hf /\ f ρ = some b ∧
 ∀ H' Hf', Rep K H₀ Hf₀ σ ρ H' Hf' -> yp H H' -> yp Hf Hf' -> Q b H'
def tAF (K : W.Frag) (f : FA) : TA := fun σ H Q => ∃ H₀ Hf₀ ρ Hf ds, Rep K H₀ Hf₀ σ ρ H Hf /\ f ρ = some ds ∧
 ∀ vs H' Hf', Rep K H₀ Hf₀ σ ρ H' Hf' -> yp H H' -> yp Hf Hf' -> z7 K Hf' ds vs -> Q vs H'
def UA (K : W.Frag) (Hf : Hp) (σ : St) (ρ : Rho) : List D -> List V -> Prop := Paired (js K Hf σ ρ)
def tAR (K : W.Frag) (f : FA) : TA := fun σ H Q => ∃ H₀ Hf₀ ρ Hf ds, Rep K H₀ Hf₀ σ ρ H Hf /\ f ρ = some ds ∧
 ∀ vs H' Hf', Rep K H₀ Hf₀ σ ρ H' Hf' -> yp H H' -> yp Hf Hf' -> UA K Hf' σ ρ ds vs -> Q vs H'
def Dy (K : W.Frag) (H₀ Hf₀ Hf : Hp) (D' : Ends) : Out -> Prop
 | .nx ρ' => ∀ σ' H' Hf', Rep K H₀ Hf₀ σ' ρ' H' Hf' -> yp Hf Hf' -> D'.nx σ' H'
 | .bk ρ' => ∀ σ' H' Hf', Rep K H₀ Hf₀ σ' ρ' H' Hf' -> yp Hf Hf' -> D'.bk σ' H'
 | .ct ρ' => ∀ σ' H' Hf', Rep K H₀ Hf₀ σ' ρ' H' Hf' -> yp Hf Hf' -> D'.ct σ' H'
 | .rt d => ∀ v σ' ρ' H' Hf', Rep K H₀ Hf₀ σ' ρ' H' Hf' -> yp Hf Hf' -> Has K Hf' d v -> D'.rt v H'
def tS (K : W.Frag) (F : FS) : TS := fun D' σ H => ∃ H₀ Hf₀ ρ Hf o, Rep K H₀ Hf₀ σ ρ H Hf /\ F ρ = some o /\ Dy K H₀ Hf₀ Hf D' o
def DE (X : Cx) (e : Expr) (f : FE) : Prop := PE X e (tF X.K f)
def DR (X : Cx) (e : Expr) (f : FE) : Prop := PE X e (tR X.K f)
def DN (X : Cx) (e : Expr) (f : FA) : Prop := PE X e (tN X.K f)
def DT (X : Cx) (e : Expr) (f : FT) : Prop := PT X e (tT X.K f)
def DW (X : Cx) (e : Expr) (f : FT) : Prop := PW X e (tT X.K f)
def DA (X : Cx) (es : List Expr) (f : FA) : Prop := PA X es (tAF X.K f)
def DAR (X : Cx) (es : List Expr) (f : FA) : Prop := PA X es (tAR X.K f)
def DS (X : Cx) (st : Stmt) (F : FS) : Prop := PS X st (tS X.K F)
def DSs (X : Cx) (sts : List Stmt) (F : FS) : Prop := PSs X sts (tS X.K F)
section
variable {X : Cx} {e a b c : Expr} {es : List Expr} {f g h : FE} {fa ga : FA} {ft gt : FT} {pos : Pos} {t t' : TE}
theorem yV (h : PE X e t) (i : ∀ σ H Q, t' σ H Q -> t σ H Q) : PE X e t' := fun pins s σ H Q I hw => h pins s σ H Q I (i _ _ _ hw)
theorem Va {t t' : TT} (h : PT X e t) (i : ∀ σ H Q, t' σ H Q -> t σ H Q) : PT X e t' := fun pins s σ H Q I hw => h pins s σ H Q I (i _ _ _ hw)
theorem Gf {t t' : TT} (h : PW X e t) (i : ∀ σ H Q, t' σ H Q -> t σ H Q) : PW X e t' := fun wh pins s σ H Q I hw => h wh pins s σ H Q I (i _ _ _ hw)
theorem Vh {t t' : TA} (h : PA X es t) (i : ∀ σ H Q, t' σ H Q -> t σ H Q) : PA X es t' := fun p pins s σ H Q I hw => h p pins s σ H Q I (i _ _ _ hw)
theorem jF {st : Stmt} {t t' : TS} (h : PS X st t) (i : ∀ D σ H, t' D σ H -> t D σ H) : PS X st t' := fun pins s σ H D I hw => h pins s σ H D I (i _ _ _ hw)
theorem Wg {sts : List Stmt} {t t' : TS} (h : PSs X sts t) (i : ∀ D σ H, t' D σ H -> t D σ H) : PSs X sts t' := fun pins s σ H D I hw => h pins s σ H D I (i _ _ _ hw)
theorem DE.dr (he : DE X e f) : DR X e f := yV he fun σ H Q ⟨H₀, Hf₀, ρ, Hf, d, R, q, k⟩ => ⟨H₀, Hf₀, ρ, Hf, d, R, q, fun v H' Hf' R' s1 s2 hv => k v H' Hf' R' s1 s2 (.inl hv)⟩
def y9 (fa : FA) : FE := fun ρ => (fa ρ).map D.lst
theorem DN.de (he : DN X e fa) : DE X e (y9 fa) := yV he fun σ H Q ⟨H₀, Hf₀, ρ, Hf, d, R, q, k⟩ => by
 unfold y9 at q
 cases hq : fa ρ with
 | none => rw [hq] at q; cases q
 | some ds =>
  rw [hq] at q; cases q
  refine ⟨H₀, Hf₀, ρ, Hf, ds, R, hq, fun a xs H' Hf' R' s1 s2 hl ha hn hh => ?_⟩
  have sm : yp Hf' (upd Hf' a (.lst xs)) := zY hn
  have h0 : H₀ a = none := R.s0.free hh
  refine k (.ref a) H' (upd Hf' a (.lst xs)) ?_ s1 (s2.trans sm) (Has.lst_iff.mpr ⟨a, xs, rfl, SqL.of zz, hl.mono sm⟩)
  refine ⟨R'.s0, fun b u z => ?_, fun b u z => ?_, R'.f0.trans sm, R'.len, fun i d z => ?_, fun i sl z o => ?_, R'.inj⟩
  ·by_cases hb : b = a
   ·subst hb; rw [zz] at z; cases z; exact ha
   ·rw [zw hb] at z; exact R'.sf b u z
  ·by_cases hb : b = a
   ·subst hb; exact .inr (.inl h0)
   ·rw [zw hb] at z; exact R'.nf b u z
  ·obtain ⟨v, p1, p2⟩ := R'.fr i d z
   exact ⟨v, p1, p2.mono sm⟩
  ·obtain ⟨b, p1, p2, p3, p4⟩ := R.ow i sl z o
   obtain ⟨b', r1, r2, r3, r4⟩ := R'.ow i sl z o
   rw [p1] at r1; cases r1
   refine ⟨b, p1, r2.mono (fun u q => q) sm, ?_, r4⟩
   rw [zw]
   ·exact r3
   ·rintro rfl
    obtain ⟨o', q'⟩ := p2.there o
    rw [q'] at hh; cases hh
def vF (i : Nat) : FE := fun ρ => match ρ[i]? with
 | some (.fr d) => some d
 | _ => none
def vR (i : Nat) : FE := fun ρ => match ρ[i]? with
 | some (.fr d) => some d
 | some (.ol ds) => some (.lst ds)
 | _ => none
theorem dv (i : Nat) {x : Str} (hN : X.N[i]? = some x := by rfl) (hv : Vis X.env.scope x := by first | exact Or.inl rfl | exact Or.inr (Or.inl rfl) | exact Or.inr (Or.inr rfl)) (hd : (x == ("__debug__" : Str)) = false := by decide)
  (hcd : (x == ("__classdict__" : Str)) = false := by decide) : DE X (.Name x pos) (vF i) :=
 yV (Ve hN hv hd hcd) fun σ H Q ⟨H₀, Hf₀, ρ, Hf, d, R, q, k⟩ => by
  unfold vF at q
  split at q
  ·cases q
   rename_i e
   obtain ⟨v, e1, e2⟩ := R.fr i d e
   exact ⟨v, e1, k v H Hf R zv zv e2⟩
  ·cases q
theorem dvr (i : Nat) {x : Str} (hN : X.N[i]? = some x := by rfl) (hv : Vis X.env.scope x := by first | exact Or.inl rfl | exact Or.inr (Or.inl rfl) | exact Or.inr (Or.inr rfl)) (hd : (x == ("__debug__" : Str)) = false := by decide)
  (hcd : (x == ("__classdict__" : Str)) = false := by decide) : DR X (.Name x pos) (vR i) :=
 yV (Ve hN hv hd hcd) fun σ H Q ⟨H₀, Hf₀, ρ, Hf, d, R, q, k⟩ => by
  unfold vR at q
  split at q
  ·cases q
   rename_i e
   obtain ⟨v, e1, e2⟩ := R.fr i d e
   exact ⟨v, e1, k v H Hf R zv zv (.inl e2)⟩
  ·cases q
   rename_i ds e
   obtain ⟨a, e1, e2, _⟩ := R.ow i _ e rfl
   exact ⟨.ref a, e1, k _ H Hf R zv zv (.inr ⟨i, ds, rfl, e, e1⟩)⟩
  ·cases q
def cF (d : D) : FE := fun _ => some d
theorem zk {i : Int} {j pos} : DE X (.Constant (.int i) j pos) (cF (.int i)) := yV Gr fun σ H Q ⟨H₀, Hf₀, ρ, Hf, d, R, q, k⟩ => by cases q; exact k _ _ _ R zv zv (Has.int_iff.mpr rfl)
theorem MQ {i : Bool} {j pos} : DE X (.Constant (.bool i) j pos) (cF (.bl i)) := yV D9 fun σ H Q ⟨H₀, Hf₀, ρ, Hf, d, R, q, k⟩ => by cases q; exact k _ _ _ R zv zv (Has.bl_iff.mpr rfl)
theorem vg {j pos} : DE X (.Constant .none j pos) (cF .non) := yV Ct fun σ H Q ⟨H₀, Hf₀, ρ, Hf, d, R, q, k⟩ => by cases q; exact k _ _ _ R zv zv (Has.non_iff.mpr rfl)
theorem Jl {x : Str} {j pos} : DE X (.Constant (.str x) j pos) (cF (.str x)) := yV Co fun σ H Q ⟨H₀, Hf₀, ρ, Hf, d, R, q, k⟩ => by cases q; exact k _ _ _ R zv zv (Has.str_iff.mpr rfl)
def JV : D -> Option V
 | .non => some .non
 | .bl b => some (.bl b)
 | .int i => some (.int i)
 | .str x => some (.str x)
 | _ => none
theorem GL {x : Str} {d : D} {v : V} {u : Value} {pos : Pos} (hg : Gl X x) (hm : X.mg x = some u) (hs : JV d = some v) (r : xK v u) (hd : (x == ("__debug__" : Str)) = false := by decide) : DE X (.Name x pos) (cF d) :=
 yV (Wi hg hm r hd) fun σ H Q ⟨H₀, Hf₀, ρ, Hf, d', R, q, k⟩ => by
  cases q
  refine k _ _ _ R zv zv ?_
  cases d <;> cases hs
  ·exact Has.non_iff.mpr rfl
  ·exact Has.bl_iff.mpr rfl
  ·exact Has.int_iff.mpr rfl
  ·exact Has.str_iff.mpr rfl
def zc (φ : D -> D -> Option D) (f g : FE) : FE := fun ρ => (f ρ).bind fun x => (g ρ).bind fun y => φ x y
def OpD (X : Cx) (r : R2) (φ : D -> D -> Option D) : Prop :=
 ∀ (σ : St) (ρ : Rho) (H₀ Hf₀ H Hf : Hp) (x y : V) (dx dy d : D) (Q : VK), Rep X.K H₀ Hf₀ σ ρ H Hf -> js X.K Hf σ ρ dx x -> js X.K Hf σ ρ dy y -> φ dx dy = some d →
  (∀ v H' Hf', Rep X.K H₀ Hf₀ σ ρ H' Hf' -> yp H H' -> yp Hf Hf' -> Has X.K Hf' d v -> Q v H') -> r x y H Q
theorem WV {r : R2} {φ : D -> D -> Option D} (hφ : OpD X r φ) (σ : St) (H : Hp) (Q : VK) (hh : tF X.K (zc φ f g) σ H Q) : tOp r (tR X.K f) (tR X.K g) σ H Q := by
 obtain ⟨H₀, Hf₀, ρ, Hf, d, R, q, k⟩ := hh
 unfold zc at q
 cases hf : f ρ with
 | none => rw [hf] at q; cases q
 | some dx =>
  cases hg : g ρ with
  | none => rw [hf, hg] at q; cases q
  | some dy =>
   rw [hf, hg] at q
   refine ⟨H₀, Hf₀, ρ, Hf, dx, R, hf, fun v H1 Hf1 R1 s1 t1 h1 => ⟨H₀, Hf₀, ρ, Hf1, dy, R1, hg, fun u H2 Hf2 R2 s2 t2 h2 => ?_⟩⟩
   exact hφ σ ρ H₀ Hf₀ H2 Hf2 v u dx dy d Q R2 (h1.mono t2) h2 q fun w' H3 Hf3 R3 s3 t3 h3 => k w' H3 Hf3 R3 ((s1.trans s2).trans s3) ((t1.trans t2).trans t3) h3
theorem Bi {op : Operator} {r : R2} {φ : D -> D -> Option D} (ho : OpR X (binaryOp op) r) (hφ : OpD X r φ) (ha : DR X a f) (hb : DR X b g) : DE X (.BinOp a op b pos) (zc φ f g) :=
 yV (Cq ho ha hb) (WV hφ)
theorem KZ {op : CmpOp} {r : R2} {φ : D -> D -> Option D} (ho : OpR X (compareOp op) r) (hφ : OpD X r φ) (ha : DR X a f) (hb : DR X b g) (hm : behindInMarks op b = false) : DE X (.Compare a [op] [b] pos) (zc φ f g) :=
 yV (Hi ho ha hb hm) (WV hφ)
theorem Fw {r : R2} {φ : D -> D -> Option D} (ho : IxR X r) (hφ : OpD X r φ) (ha : DR X a f) (hb : DR X b g) (hs : WK b) : DE X (.Subscript a b pos) (zc φ f g) :=
 yV (Hh ho ha hb hs) (WV hφ)
section
variable {K : W.Frag} {H₀ Hf₀ : Hp} {σ : St} {ρ : Rho} {H Hf : Hp} {v : V}
theorem js.int {i : Int} (h : js K Hf σ ρ (.int i) v) : v = .int i := by
 rcases h with h | ⟨_, _, e, _⟩
 ·exact Has.int_iff.mp h
 ·cases e
theorem js.bl {i : Bool} (h : js K Hf σ ρ (.bl i) v) : v = .bl i := by
 rcases h with h | ⟨_, _, e, _⟩
 ·exact Has.bl_iff.mp h
 ·cases e
theorem js.str {i : Str} (h : js K Hf σ ρ (.str i) v) : v = .str i := by
 rcases h with h | ⟨_, _, e, _⟩
 ·exact Has.str_iff.mp h
 ·cases e
theorem js.non (h : js K Hf σ ρ .non v) : v = .non := by
 rcases h with h | ⟨_, _, e, _⟩
 ·exact Has.non_iff.mp h
 ·cases e
theorem js.tup {ds : List D} (h : js K Hf σ ρ (.tup ds) v) (R : Rep K H₀ Hf₀ σ ρ H Hf) : ∃ a xs, v = .ref a /\ SqT K H a xs /\ z7 K Hf ds xs := by
 rcases h with h | ⟨_, _, e, _⟩
 ·obtain ⟨a, xs, e, q, l⟩ := Has.tup_iff.mp h
  exact ⟨a, xs, e, ux R.sf q, l⟩
 ·cases e
theorem js.lst {ds : List D} (h : js K Hf σ ρ (.lst ds) v) (R : Rep K H₀ Hf₀ σ ρ H Hf) : ∃ a xs, v = .ref a /\ SqL K H a xs /\ z7 K Hf ds xs := by
 rcases h with h | ⟨i, ds', e, e1, e2⟩
 ·obtain ⟨a, xs, e, q, l⟩ := Has.lst_iff.mp h
  exact ⟨a, xs, e, R.sf.seq q, l⟩
 ·cases e
  obtain ⟨a, p1, ⟨xs, p2, p3⟩, _⟩ := R.ow i _ e1 rfl
  rw [e2] at p1; cases p1
  exact ⟨a, xs, rfl, SqL.of p2, p3⟩
end
def iiD (φ : Int -> Int -> Option D) : D -> D -> Option D
 | .int i, .int j => φ i j
 | _, _ => none
theorem Vo {φ : Int -> Int -> Option D} {x y d : D} (h : iiD φ x y = some d) : ∃ i j, x = .int i /\ y = .int j /\ φ i j = some d := by
 cases x <;> cases y <;> first | cases h | exact ⟨_, _, rfl, rfl, h⟩
theorem Vp {K : W.Frag} {H : Hp} {d : D} {v : V} (h : JV d = some v) : Has K H d v := by
 cases d <;> cases h
 ·exact Has.non_iff.mpr rfl
 ·exact Has.bl_iff.mpr rfl
 ·exact Has.int_iff.mpr rfl
 ·exact Has.str_iff.mpr rfl
theorem Vj {C : Int -> Int -> Prop} {gv : Int -> Int -> V} {φ : Int -> Int -> Option D} (h : ∀ i j d, φ i j = some d -> C i j /\ JV d = some (gv i j)) : OpD X (rI C gv) (iiD φ) := by
 intro σ ρ H₀ Hf₀ H Hf x y dx dy d Q R hx hy hφ k
 obtain ⟨i, j, rfl, rfl, hd⟩ := Vo hφ
 obtain ⟨c, s⟩ := h i j d hd
 exact ⟨i, j, hx.int, hy.int, c, k _ _ _ R zv zv (Vp s)⟩
theorem kv {gv : Int -> Int -> V} {φ : Int -> Int -> Option D} (h : ∀ i j d, φ i j = some d -> JV d = some (gv i j)) : OpD X (rI0 gv) (iiD φ) := by
 intro σ ρ H₀ Hf₀ H Hf x y dx dy d Q R hx hy hφ k
 obtain ⟨i, j, rfl, rfl, hd⟩ := Vo hφ
 exact ⟨i, j, hx.int, hy.int, k _ _ _ R zv zv (Vp (h i j d hd))⟩
end
def big : Nat := 2 ^ 8000
theorem YF {i : Int} (h : i.natAbs < big) : Builtin.Int.intBits i <= 8001 := by
 unfold Builtin.Int.intBits
 split
 ·exact g2e _
 ·have : i.natAbs.log2 < 8000 := by
   rcases Nat.eq_zero_or_pos i.natAbs with h0 | hp
   ·rw [h0]; decide
   ·exact (Nat.log2_lt (Nat.ne_of_gt hp)).mpr h
  omega
def Uz (i j : Int) : Prop := i.natAbs < 2 ^ 64 \/ j.natAbs < 2 ^ 64 \/ (i.natAbs < big /\ j.natAbs < big)
instance (i j : Int) : Decidable (Uz i j) := by unfold Uz; exact inferInstance
theorem Uz.ok {i j : Int} (h : Uz i j) : IntMulOk i j := by
 rcases h with h | h | ⟨h1, h2⟩
 ·exact .of_left (intBits_le_64 (by omega) (by omega))
 ·exact .of_right (intBits_le_64 (by omega) (by omega))
 ·exact IntMulOk.of_le (YF h1) (YF h2) (by decide)
def BH (j : Int) : Prop := 0 < j /\ j < 2 ^ 64
instance (j : Int) : Decidable (BH j) := by unfold BH; exact inferInstance
def Bu (i j : Int) : Prop := 0 <= j /\ j <= 1000 /\ i.natAbs < big
instance (i j : Int) : Decidable (Bu i j) := by unfold Bu; exact inferInstance
section
variable {X : Cx} {e a b c : Expr} {es : List Expr} {f g h : FE} {fa ga : FA} {ft gt : FT} {pos : Pos} {t t' : TE}
theorem Qn : OpR X (binaryOp .Mult) (rI Uz fun i j => .int (i * j)) := opI fun _ _ _ _ _ _ _ hc q => mul_int q hc.ok
theorem Kd : OpR X (binaryOp .FloorDiv) (rI (fun _ j => BH j) fun i j => .int (i / j)) := opI fun i j _ _ _ _ _ hc q => by
 have h1 : (0 : Int) < j := hc.1
 have h2 : j < 2 ^ 64 := hc.2
 refine floordiv_int (by omega) (by rw [Int.fdiv_eq_ediv_of_nonneg i (by omega)]; exact q) (.inl (PyProof.noPylong_of_log2 ?_))
 have hn : j.natAbs < 2 ^ 64 := by omega
 have : j.natAbs.log2 < 64 := (Nat.log2_lt (by omega)).mpr hn
 omega
theorem Hl : OpR X (binaryOp .Pow) (rI Bu fun i j => .int (i ^ j.toNat)) := opI fun i j _ _ _ _ _ hc q => by
 obtain ⟨h1, h2, h3⟩ := hc
 refine pow_int h1 ?_ q
 have hb := YF h3
 have : (Builtin.Int.intBits i : Int) * j <= 8001 * 1000 := Int.mul_le_mul (by omega) h2 h1 (by decide)
 exact Int.le_trans this (by decide)
def uz : D -> D -> Option D := iiD fun i j => if Uz i j then some (.int (i * j)) else none
def Ga : D -> D -> Option D := iiD fun i j => some (.int (i - j))
def vZ : D -> D -> Option D := iiD fun i j => if 0 < j then some (.int (i % j)) else none
def wt : D -> D -> Option D := iiD fun i j => if BH j then some (.int (i / j)) else none
def Bz : D -> D -> Option D := iiD fun i j => if Bu i j then some (.int (i ^ j.toNat)) else none
theorem Qr : OpD X (rI Uz fun i j => .int (i * j)) uz := Vj fun i j d q => by
 split at q
 ·cases q; exact ⟨by assumption, rfl⟩
 ·cases q
theorem Hs : OpD X (rI0 fun i j => .int (i - j)) Ga := kv fun i j d q => by cases q; rfl
theorem Hu : OpD X (rI (fun _ j => 0 < j) fun i j => .int (i % j)) vZ := Vj fun i j d q => by
 split at q
 ·cases q; exact ⟨by assumption, rfl⟩
 ·cases q
theorem Kh : OpD X (rI (fun _ j => BH j) fun i j => .int (i / j)) wt := Vj fun i j d q => by
 split at q
 ·cases q; exact ⟨by assumption, rfl⟩
 ·cases q
theorem Ht : OpD X (rI Bu fun i j => .int (i ^ j.toNat)) Bz := Vj fun i j d q => by
 split at q
 ·cases q; exact ⟨by assumption, rfl⟩
 ·cases q
theorem KW (ha : DR X a f) (hb : DR X b g) : DE X (.BinOp a .Sub b pos) (zc Ga f g) := Bi Gs Hs ha hb
theorem uJ (ha : DR X a f) (hb : DR X b g) : DE X (.BinOp a .Mult b pos) (zc uz f g) := Bi Qn Qr ha hb
theorem wL (ha : DR X a f) (hb : DR X b g) : DE X (.BinOp a .Mod b pos) (zc vZ f g) := Bi CA Hu ha hb
theorem uw (ha : DR X a f) (hb : DR X b g) : DE X (.BinOp a .FloorDiv b pos) (zc wt f g) := Bi Kd Kh ha hb
theorem Da (ha : DR X a f) (hb : DR X b g) : DE X (.BinOp a .Pow b pos) (zc Bz f g) := Bi Hl Ht ha hb
def MW : D -> D -> Option D
 | .int i, .int j => some (.int (i + j))
 | .str x, .str y => if x.length + y.length <= sizeLine then some (.str (x ++ y)) else none
 | .lst xs, .lst ys => if xs.length + ys.length <= sizeLine then some (.lst (xs ++ ys)) else none
 | .tup (x :: xs), .tup ys => if xs.length + 1 + ys.length <= sizeLine then some (.tup (x :: xs ++ ys)) else none
 | _, _ => none
def uB (φ : D -> Option D) (f : FE) : FE := fun ρ => (f ρ).bind φ
def Ko : D -> Option D
 | .int i => some (.int (-i))
 | _ => none
theorem YA (ha : DR X a f) : DE X (.UnaryOp .USub a pos) (uB Ko f) :=
 yV (D8 BI ha) fun σ H Q ⟨H₀, Hf₀, ρ, Hf, d, R, q, k⟩ => by
  unfold uB at q
  cases hf : f ρ with
  | none => rw [hf] at q; cases q
  | some x =>
   rw [hf] at q
   cases x <;> try cases q
   exact ⟨H₀, Hf₀, ρ, Hf, _, R, hf, fun v H1 Hf1 R1 s1 t1 h1 => ⟨_, h1.int, k _ _ _ R1 s1 t1 (Has.int_iff.mpr rfl)⟩⟩
def ltD : D -> D -> Option D := iiD fun i j => some (.bl (decide (i < j)))
def leD : D -> D -> Option D := iiD fun i j => some (.bl (decide (i <= j)))
def gtD : D -> D -> Option D := iiD fun i j => some (.bl (decide (j < i)))
def geD : D -> D -> Option D := iiD fun i j => some (.bl (decide (j <= i)))
theorem ZF : OpD X (rI0 fun i j => .bl (decide (i < j))) ltD := kv fun i j d q => by cases q; rfl
theorem Xk : OpD X (rI0 fun i j => .bl (decide (i <= j))) leD := kv fun i j d q => by cases q; rfl
theorem CD : OpD X (rI0 fun i j => .bl (decide (j < i))) gtD := kv fun i j d q => by cases q; rfl
theorem CF : OpD X (rI0 fun i j => .bl (decide (j <= i))) geD := kv fun i j d q => by cases q; rfl
def isD (neg : Bool) : D -> D -> Option D := fun x y => match y with
 | .non => match x with
  | .non => some (.bl (!neg))
  | _ => some (.bl neg)
 | _ => none
theorem Vq {K : W.Frag} {Hf : Hp} {σ : St} {ρ : Rho} {x : D} {v : V} (h : js K Hf σ ρ x v) (R : ∃ H₀ Hf₀ H, Rep K H₀ Hf₀ σ ρ H Hf) : decide (v = V.non) = (match x with | .non => true | _ => false) := by
 obtain ⟨H₀, Hf₀, H, R⟩ := R
 cases x with
 | non => cases h.non; rfl
 | bl b => cases h.bl; rfl
 | int b => cases h.int; rfl
 | str b => cases h.str; rfl
 | tup ds => obtain ⟨a, xs, rfl, _⟩ := h.tup R; rfl
 | lst ds => obtain ⟨a, xs, rfl, _⟩ := h.lst R; rfl
theorem Gw : OpD X (fun x y H Q => y = .non /\ Q (.bl (decide (x = .non))) H) (isD false) := by
 intro σ ρ H₀ Hf₀ H Hf x y dx dy d Q R hx hy hφ k
 cases dy <;> try cases hφ
 have e := Vq hx ⟨_, _, _, R⟩
 refine ⟨hy.non, ?_⟩
 rw [e]
 cases dx <;> cases hφ <;> exact k _ _ _ R zv zv (Has.bl_iff.mpr rfl)
theorem Qt : OpD X (fun x y H Q => y = .non /\ Q (.bl (!decide (x = .non))) H) (isD true) := by
 intro σ ρ H₀ Hf₀ H Hf x y dx dy d Q R hx hy hφ k
 cases dy <;> try cases hφ
 have e := Vq hx ⟨_, _, _, R⟩
 refine ⟨hy.non, ?_⟩
 rw [e]
 cases dx <;> cases hφ <;> exact k _ _ _ R zv zv (Has.bl_iff.mpr rfl)
theorem MP (ha : DR X a f) (hb : DR X b g) : DE X (.Compare a [.Is] [b] pos) (zc (isD false) f g) := KZ Gu Gw ha hb (qd _)
def ixD : D -> D -> Option D
 | .tup ds, .int i => atI ds i
 | .lst ds, .int i => atI ds i
 | .str z, .int i => if z.length <= sizeLine then (atI z.cps.toList i).map fun c => .str ⟨#[c]⟩ else none
 | _, _ => none
theorem z7.atI {K : W.Frag} {H : Hp} {ds : List D} {xs : List V} {i : Int} {d : D} (h : z7 K H ds xs) (e : L2.atI ds i = some d) : ∃ v, L2.atI xs i = some v /\ Has K H d v := by
 unfold L2.atI at e ⊢
 rw [h.length]
 cases hj : ixN ds.length i with
 | none => rw [hj] at e; cases e
 | some j =>
  rw [hj] at e
  exact h.get e
theorem Qs : OpD X (rIx X.K) ixD := by
 intro σ ρ H₀ Hf₀ H Hf x y dx dy d Q R hx hy hφ k
 unfold ixD at hφ
 split at hφ
 ·obtain ⟨a, xs, rfl, qa, la⟩ := hx.tup R
  obtain ⟨v, e1, e2⟩ := la.atI hφ
  exact .inr (.inl ⟨a, xs, _, v, rfl, hy.int, qa, e1, k _ _ _ R zv zv e2⟩)
 ·obtain ⟨a, xs, rfl, qa, la⟩ := hx.lst R
  obtain ⟨v, e1, e2⟩ := la.atI hφ
  exact .inl ⟨a, xs, _, v, rfl, hy.int, qa, e1, k _ _ _ R zv zv e2⟩
 ·split at hφ
  ·rename_i z i hz
   cases e : atI z.cps.toList i with
   | none => rw [e] at hφ; cases hφ
   | some c =>
    rw [e] at hφ
    cases hφ
    exact .inr (.inr ⟨z, i, c, hx.str, hy.int, hz, e, k _ _ _ R zv zv (Has.str_iff.mpr rfl)⟩)
  ·cases hφ
 ·cases hφ
theorem xJ (ha : DR X a f) (hb : DR X b g) (hs : WK b := by intro _ _; rfl) : DE X (.Subscript a b pos) (zc ixD f g) := Fw QU Qs ha hb hs
def zB : FA := fun _ => some []
def zb (f : FE) (g : FA) : FA := fun ρ => (f ρ).bind fun x => (g ρ).bind fun xs => some (x :: xs)
theorem jl {f : FE} {g : FA} {ρ : Rho} {l : List D} (h : zb f g ρ = some l) : ∃ x xs, f ρ = some x /\ g ρ = some xs /\ l = x :: xs := by
 unfold zb at h
 cases hf : f ρ with
 | none => rw [hf] at h; cases h
 | some x =>
  cases hg : g ρ with
  | none => rw [hf, hg] at h; cases h
  | some xs => rw [hf, hg] at h; cases h; exact ⟨x, xs, rfl, rfl, rfl⟩
theorem zp : DA X [] zB := Vh xb fun σ H Q ⟨H₀, Hf₀, ρ, Hf, d, R, q, k⟩ => by cases q; exact k _ _ _ R zv zv .nil
theorem za (ha : DE X e f) (hr : DA X es fa) (hs : starEach (e :: es) X.env = (false, eval e X.env) :: starEach es X.env := by rfl) : DA X (e :: es) (zb f fa) :=
 Vh (zM ha hr hs) fun σ H Q ⟨H₀, Hf₀, ρ, Hf, d, R, q, k⟩ => by
  obtain ⟨x, xs, e1, e2, rfl⟩ := jl q
  exact ⟨H₀, Hf₀, ρ, Hf, x, R, e1, fun v H1 Hf1 R1 s1 t1 h1 => ⟨H₀, Hf₀, ρ, Hf1, xs, R1, e2, fun vs H2 Hf2 R2 s2 t2 h2 => k _ _ _ R2 (s1.trans s2) (t1.trans t2) (.cons (h1.mono t2) h2)⟩⟩
theorem yo : DAR X [] zB := Vh xb fun σ H Q ⟨H₀, Hf₀, ρ, Hf, d, R, q, k⟩ => by cases q; exact k _ _ _ R zv zv .nil
theorem zJ (ha : DR X e f) (hr : DAR X es fa) (hs : starEach (e :: es) X.env = (false, eval e X.env) :: starEach es X.env := by rfl) : DAR X (e :: es) (zb f fa) :=
 Vh (zM ha hr hs) fun σ H Q ⟨H₀, Hf₀, ρ, Hf, d, R, q, k⟩ => by
  obtain ⟨x, xs, e1, e2, rfl⟩ := jl q
  exact ⟨H₀, Hf₀, ρ, Hf, x, R, e1, fun v H1 Hf1 R1 s1 t1 h1 => ⟨H₀, Hf₀, ρ, Hf1, xs, R1, e2, fun vs H2 Hf2 R2 s2 t2 h2 => k _ _ _ R2 (s1.trans s2) (t1.trans t2) (.cons (h1.mono t2) h2)⟩⟩
def tupF (g : FA) : FE := fun ρ => (g ρ).bind fun xs => if xs.length <= sizeLine then some (.tup xs) else none
theorem vo {x1} (h : DA X es fa) : DE X (.Tuple es x1 pos) (tupF fa) :=
 yV (Cn h) fun σ H Q ⟨H₀, Hf₀, ρ, Hf, d, R, q, k⟩ => by
  unfold tupF at q
  cases hg : fa ρ with
  | none => rw [hg] at q; cases q
  | some xs =>
   rw [hg] at q
   simp only [g0a] at q
   split at q
   ·cases q
    rename_i hl
    refine ⟨H₀, Hf₀, ρ, Hf, xs, R, hg, fun vs H1 Hf1 R1 s1 t1 h1 => ⟨by rw [h1.length]; exact hl, fun p hp => ?_⟩⟩
    have sm := zY (o := .tup vs) (R1.sf.free hp)
    exact k _ _ _ (R1.lay hp) (s1.trans (zY hp)) (t1.trans sm) (Has.tup_iff.mpr ⟨p, vs, rfl, SqT.of zz, h1.mono sm⟩)
   ·cases q
def Xs (g : FA) : FA := fun ρ => (g ρ).bind fun xs => if xs.length <= sizeLine then some xs else none
theorem jM (h : DA X es fa) : DN X (.List es pos) (Xs fa) :=
 yV (Gq h) fun σ H Q ⟨H₀, Hf₀, ρ, Hf, d, R, q, k⟩ => by
  unfold Xs at q
  cases hg : fa ρ with
  | none => rw [hg] at q; cases q
  | some xs =>
   rw [hg] at q
   simp only [g0a] at q
   split at q
   ·cases q
    rename_i hl
    refine ⟨H₀, Hf₀, ρ, Hf, _, R, hg, fun vs H1 Hf1 R1 s1 t1 h1 => ⟨by rw [h1.length]; exact hl, fun p hp => ?_⟩⟩
    exact k _ _ _ _ (R1.layN hp) (s1.trans (zY hp)) t1 h1 zz (R1.sf.free hp) (s1.free hp)
   ·cases q
def blF (f : FE) : FT := fun ρ => (f ρ).bind fun | .bl b => some b | _ => none
theorem YE {f : FE} {ρ : Rho} {b : Bool} (h : blF f ρ = some b) : f ρ = some (.bl b) := by
 unfold blF at h
 cases hf : f ρ with
 | none => rw [hf] at h; cases h
 | some x => rw [hf] at h; cases x <;> cases h; rfl
theorem ZN (h : DR X e f) (he : ∀ whole, isTrue e X.env whole = (do let v ← whole; standAt e.pos; holding [v] (truthy v)) := by intro _; rfl) : DT X e (blF f) :=
 Va (Gg h he) fun σ H Q ⟨H₀, Hf₀, ρ, Hf, d, R, q, k⟩ => ⟨H₀, Hf₀, ρ, Hf, _, R, YE q, fun v H1 Hf1 R1 s1 t1 h1 => ⟨d, h1.bl, k _ _ R1 s1 t1⟩⟩
theorem xP {op : CmpOp} {r : R2} {φ : D -> D -> Option D} (ho : OpR X (compareOp op) r) (hφ : OpD X r φ) (ha : DR X a f) (hb : DR X b g) (hm : behindInMarks op b = false) : DT X (.Compare a [op] [b] pos) (blF (zc φ f g)) :=
 Va (Qb ho ha hb hm) fun σ H Q ⟨H₀, Hf₀, ρ, Hf, d, R, q, k⟩ => WV hφ σ H _ ⟨H₀, Hf₀, ρ, Hf, _, R, YE q, fun v H1 Hf1 R1 s1 t1 h1 => ⟨d, Has.bl_iff.mp h1, k _ _ R1 s1 t1⟩⟩
theorem Bc (ha : DR X a f) (hb : DR X b g) : DT X (.Compare a [.Lt] [b] pos) (blF (zc ltD f g)) := xP V6 ZF ha hb (qd _)
theorem Be (ha : DR X a f) (hb : DR X b g) : DT X (.Compare a [.Gt] [b] pos) (blF (zc gtD f g)) := xP Fb CD ha hb (qd _)
theorem Bf (ha : DR X a f) (hb : DR X b g) : DT X (.Compare a [.GtE] [b] pos) (blF (zc geD f g)) := xP Fc CF ha hb (qd _)
theorem Bd (ha : DR X a f) (hb : DR X b g) : DT X (.Compare a [.Is] [b] pos) (blF (zc (isD false) f g)) := xP Gu Gw ha hb (qd _)
theorem Vw (ha : DR X a f) (hb : DR X b g) : DT X (.Compare a [.IsNot] [b] pos) (blF (zc (isD true) f g)) := xP Hm Qt ha hb (qd _)
def WI (f g : FT) : FT := fun ρ => (f ρ).bind fun b => if b = true then g ρ else some false
def orT (f g : FT) : FT := fun ρ => (f ρ).bind fun b => if b = true then some true else g ρ
def Wq (f : FT) : FT := fun ρ => (f ρ).bind fun b => some (!b)
variable {rest : List Expr}
theorem w5 {α : Type} {f : Rho -> Option Bool} {k : Bool -> Option α} {ρ : Rho} {r : α} (h : (f ρ).bind k = some r) : ∃ b, f ρ = some b /\ k b = some r := by
 cases hf : f ρ with
 | none => rw [hf] at h; cases h
 | some x => rw [hf] at h; exact ⟨x, rfl, h⟩
theorem kQ (ha : DT X a ft) : DW X (.BoolOp .And [a] pos) ft := Ha ha
theorem ZM (ha : DT X a ft) : DW X (.BoolOp .Or [a] pos) ft := Ck ha
theorem kR (ha : DT X a ft) (hb : DW X (.BoolOp .And (b :: rest) pos) gt) : DW X (.BoolOp .And (a :: b :: rest) pos) (WI ft gt) :=
 Gf (Cm ha hb) fun σ H Q ⟨H₀, Hf₀, ρ, Hf, d, R, q, k⟩ => by
  obtain ⟨b, e1, e2⟩ := w5 q
  refine ⟨H₀, Hf₀, ρ, Hf, b, R, e1, fun H1 Hf1 R1 s1 t1 => ?_⟩
  cases b with
  | true => exact Ky ⟨H₀, Hf₀, ρ, Hf1, d, R1, e2, fun H2 Hf2 R2 s2 t2 => k _ _ R2 (s1.trans s2) (t1.trans t2)⟩
  | false => cases e2; exact Kz (k _ _ R1 s1 t1)
theorem Yu (ha : DT X a ft) (hb : DW X (.BoolOp .Or (b :: rest) pos) gt) : DW X (.BoolOp .Or (a :: b :: rest) pos) (orT ft gt) :=
 Gf (D6 ha hb) fun σ H Q ⟨H₀, Hf₀, ρ, Hf, d, R, q, k⟩ => by
  obtain ⟨b, e1, e2⟩ := w5 q
  refine ⟨H₀, Hf₀, ρ, Hf, b, R, e1, fun H1 Hf1 R1 s1 t1 => ?_⟩
  cases b with
  | false => exact Kz ⟨H₀, Hf₀, ρ, Hf1, d, R1, e2, fun H2 Hf2 R2 s2 t2 => k _ _ R2 (s1.trans s2) (t1.trans t2)⟩
  | true => cases e2; exact Ky (k _ _ R1 s1 t1)
theorem DW.dt (h : DW X e ft) : DT X e ft := PW.pt h
theorem qM (ha : DT X a ft) : DT X (.UnaryOp .Not a pos) (Wq ft) :=
 Va (Gh ha) fun σ H Q ⟨H₀, Hf₀, ρ, Hf, d, R, q, k⟩ => by
  obtain ⟨b, e1, e2⟩ := w5 q
  cases e2
  exact ⟨H₀, Hf₀, ρ, Hf, b, R, e1, fun H1 Hf1 R1 s1 t1 => k _ _ R1 s1 t1⟩
def BF (f g : FE) : FE := fun ρ => (f ρ).bind fun | .bl b => (if b = true then g ρ else some (.bl false)) | _ => none
def Fh (f : FE) : FE := fun ρ => (f ρ).bind fun | .bl b => some (.bl (!b)) | _ => none
theorem zP {α : Type} {f : FE} {k : D -> Option α} {ρ : Rho} {r : α} (h : (f ρ).bind k = some r) : ∃ b, f ρ = some b /\ k b = some r := by
 cases hf : f ρ with
 | none => rw [hf] at h; cases h
 | some x => rw [hf] at h; exact ⟨x, rfl, h⟩
theorem KY {op} (h : DE X a f) : DE X (.BoolOp op [a] pos) f := Cr h
theorem K0 (ha : DE X a f) (hb : DE X (.BoolOp .And (b :: rest) pos) g) : DE X (.BoolOp .And (a :: b :: rest) pos) (BF f g) :=
 yV (Cv ha hb) fun σ H Q ⟨H₀, Hf₀, ρ, Hf, d, R, q, k⟩ => by
  obtain ⟨x, e1, e2⟩ := zP q
  cases x <;> try cases e2
  rename_i b
  refine ⟨H₀, Hf₀, ρ, Hf, _, R, e1, fun v H1 Hf1 R1 s1 t1 h1 => ⟨b, Has.bl_iff.mp h1, ?_⟩⟩
  cases b with
  | true => exact Ky ⟨H₀, Hf₀, ρ, Hf1, d, R1, e2, fun v H2 Hf2 R2 s2 t2 h2 => k _ _ _ R2 (s1.trans s2) (t1.trans t2) h2⟩
  | false => cases e2; exact Kz (k _ _ _ R1 s1 t1 (Has.bl_iff.mpr rfl))
theorem Fv (ha : DE X a f) : DE X (.UnaryOp .Not a pos) (Fh f) :=
 yV (Cs ha) fun σ H Q ⟨H₀, Hf₀, ρ, Hf, d, R, q, k⟩ => by
  obtain ⟨x, e1, e2⟩ := zP q
  cases x <;> try cases e2
  rename_i b
  exact ⟨H₀, Hf₀, ρ, Hf, _, R, e1, fun v H1 Hf1 R1 s1 t1 h1 => ⟨b, Has.bl_iff.mp h1, k _ _ _ R1 s1 t1 (Has.bl_iff.mpr rfl)⟩⟩
def ifF (c : FT) (f g : FE) : FE := fun ρ => (c ρ).bind fun b => if b = true then f ρ else g ρ
theorem Jn (hc : DT X c ft) (ha : DE X a f) (hb : DE X b g) : DE X (.IfExp c a b pos) (ifF ft f g) :=
 yV (Kb hc ha hb) fun σ H Q ⟨H₀, Hf₀, ρ, Hf, d, R, q, k⟩ => by
  obtain ⟨x, e1, e2⟩ := w5 q
  refine ⟨H₀, Hf₀, ρ, Hf, x, R, e1, fun H1 Hf1 R1 s1 t1 => ?_⟩
  cases x with
  | true => exact Ky ⟨H₀, Hf₀, ρ, Hf1, d, R1, e2, fun v H2 Hf2 R2 s2 t2 h2 => k _ _ _ R2 (s1.trans s2) (t1.trans t2) h2⟩
  | false => exact Kz ⟨H₀, Hf₀, ρ, Hf1, d, R1, e2, fun v H2 Hf2 R2 s2 t2 h2 => k _ _ _ R2 (s1.trans s2) (t1.trans t2) h2⟩
end
mutual
def eqD : D -> D -> Bool
 | .non, .non => true
 | .bl a, .bl b => a == b
 | .bl a, .int b => (if a then 1 else 0) == b
 | .int a, .bl b => a == (if b then 1 else 0)
 | .int a, .int b => a == b
 | .str a, .str b => a == b
 | .tup a, .tup b => j2 a b
 | .lst a, .lst b => j2 a b
 | _, _ => false
def j2 : List D -> List D -> Bool
 | [], [] => true
 | x :: xs, y :: ys => eqD x y && j2 xs ys
 | _, _ => false
end
mutual
def dep : D -> Nat
 | .tup a => qh a + 1
 | .lst a => qh a + 1
 | _ => 0
def qh : List D -> Nat
 | [] => 0
 | x :: xs => max (dep x) (qh xs)
end
theorem Yz {l : List D} {k : Nat} (h : ∀ d ∈ l, dep d <= k) : qh l <= k := by
 induction l with
 | nil => simp [qh]
 | cons x xs ih =>
  unfold qh
  exact Nat.max_le.mpr ⟨h x g0s, ih fun d hd => h d (g0n _ hd)⟩
mutual
theorem Ys : ∀ d : D, eqD d d = true
 | .non => by simp [eqD]
 | .bl b => by simp [eqD]
 | .int i => by simp [eqD]
 | .str x => by simp [eqD]
 | .tup ds => by unfold eqD; exact kO ds
 | .lst ds => by unfold eqD; exact kO ds
theorem kO : ∀ ds : List D, j2 ds ds = true
 | [] => by simp [j2]
 | d :: ds => by unfold j2; rw [Ys d, kO ds]; rfl
end
theorem qp : ∀ (xs ys : List D), j2 xs ys = ((g1f (min xs.length ys.length)).all (fun j => eqD (xs.getD j .non) (ys.getD j .non)) && xs.length == ys.length)
 | [], [] => by simp [j2]
 | [], y :: ys => by simp [j2]
 | x :: xs, [] => by simp [j2]
 | x :: xs, y :: ys => by
  unfold j2
  rw [qp xs ys]
  have e : min (x :: xs).length (y :: ys).length = min xs.length ys.length + 1 := by simp only [g0d]; omega
  rw [e, g2b, List.all_cons, List.all_map]
  simp [Function.comp_def, Bool.and_assoc]
section
variable {X : Cx} {pins : List (Addr × Obj)} {σ : St} {H Hf : Hp} {s : Shared}
mutual
theorem Has.inj (I : Inv X pins σ H s) : ∀ {d d' : D} {v : V}, Has X.K H d v -> Has X.K H d' v -> d = d'
 | .non, d', v, h, h' => by
  rw [Has.non_iff] at h; subst h
  cases d' with
  | non => rfl
  | bl b => cases Has.bl_iff.mp h'
  | int b => cases Has.int_iff.mp h'
  | str b => cases Has.str_iff.mp h'
  | tup b => obtain ⟨_, _, e, _⟩ := Has.tup_iff.mp h'; cases e
  | lst b => obtain ⟨_, _, e, _⟩ := Has.lst_iff.mp h'; cases e
 | .bl x, d', v, h, h' => by
  rw [Has.bl_iff] at h; subst h
  cases d' with
  | non => cases Has.non_iff.mp h'
  | bl b => cases Has.bl_iff.mp h'; rfl
  | int b => cases Has.int_iff.mp h'
  | str b => cases Has.str_iff.mp h'
  | tup b => obtain ⟨_, _, e, _⟩ := Has.tup_iff.mp h'; cases e
  | lst b => obtain ⟨_, _, e, _⟩ := Has.lst_iff.mp h'; cases e
 | .int x, d', v, h, h' => by
  rw [Has.int_iff] at h; subst h
  cases d' with
  | non => cases Has.non_iff.mp h'
  | bl b => cases Has.bl_iff.mp h'
  | int b => cases Has.int_iff.mp h'; rfl
  | str b => cases Has.str_iff.mp h'
  | tup b => obtain ⟨_, _, e, _⟩ := Has.tup_iff.mp h'; cases e
  | lst b => obtain ⟨_, _, e, _⟩ := Has.lst_iff.mp h'; cases e
 | .str x, d', v, h, h' => by
  rw [Has.str_iff] at h; subst h
  cases d' with
  | non => cases Has.non_iff.mp h'
  | bl b => cases Has.bl_iff.mp h'
  | int b => cases Has.int_iff.mp h'
  | str b => cases Has.str_iff.mp h'; rfl
  | tup b => obtain ⟨_, _, e, _⟩ := Has.tup_iff.mp h'; cases e
  | lst b => obtain ⟨_, _, e, _⟩ := Has.lst_iff.mp h'; cases e
 | .tup x, d', v, h, h' => by
  obtain ⟨a, xs, rfl, qa, la⟩ := Has.tup_iff.mp h
  cases d' with
  | non => cases Has.non_iff.mp h'
  | bl b => cases Has.bl_iff.mp h'
  | int b => cases Has.int_iff.mp h'
  | str b => cases Has.str_iff.mp h'
  | tup b =>
   obtain ⟨a', ys, e, qb, lb⟩ := Has.tup_iff.mp h'
   cases e
   cases I.tuple_inj qa qb
   rw [z7.inj I la lb]
  | lst b =>
   obtain ⟨a', ys, e, qb, lb⟩ := Has.lst_iff.mp h'
   cases e
   obtain ⟨its, _, p1, _⟩ := I.tuple qa
   obtain ⟨its', _, p2, _⟩ := I.list qb
   exact absurd rfl (SeqAt.ne_of_list_tuple p2.isList p1)
 | .lst x, d', v, h, h' => by
  obtain ⟨a, xs, rfl, qa, la⟩ := Has.lst_iff.mp h
  cases d' with
  | non => cases Has.non_iff.mp h'
  | bl b => cases Has.bl_iff.mp h'
  | int b => cases Has.int_iff.mp h'
  | str b => cases Has.str_iff.mp h'
  | lst b =>
   obtain ⟨a', ys, e, qb, lb⟩ := Has.lst_iff.mp h'
   cases e
   cases I.list_inj qa qb
   rw [z7.inj I la lb]
  | tup b =>
   obtain ⟨a', ys, e, qb, lb⟩ := Has.tup_iff.mp h'
   cases e
   obtain ⟨its, _, p1, _⟩ := I.tuple qb
   obtain ⟨its', _, p2, _⟩ := I.list qa
   exact absurd rfl (SeqAt.ne_of_list_tuple p2.isList p1)
theorem z7.inj (I : Inv X pins σ H s) : ∀ {ds ds' : List D} {xs : List V}, z7 X.K H ds xs -> z7 X.K H ds' xs -> ds = ds'
 | [], ds', xs, h, h' => by
  rw [z7.nil_iff] at h; subst h
  cases ds' with
  | nil => rfl
  | cons d r => obtain ⟨_, _, e, _⟩ := z7.cons_iff.mp h'; cases e
 | d :: ds, ds', xs, h, h' => by
  obtain ⟨x, r, rfl, h1, h2⟩ := z7.cons_iff.mp h
  cases ds' with
  | nil => rw [z7.nil_iff] at h'; cases h'
  | cons d' r' =>
   obtain ⟨x', r'', e, h1', h2'⟩ := z7.cons_iff.mp h'
   cases e
   rw [Has.inj I h1 h1', z7.inj I h2 h2']
end
open SeqAt in
mutual
theorem Jh (I : Inv X pins σ H s) : ∀ (d : D) (A : Around) (d' : D) (v v' : V) (u u' : Value), Has X.K H d v -> Has X.K H d' v' -> xK v u -> xK v' u' -> A.units + dep d < cLine -> EqAt A s u u' (eqD d d')
 | .non, A, d', v, v', u, u', h, h', r, r', hu => by
  have hu : A.units < cLine := by omega
  rw [Has.non_iff] at h; subst h
  cases r
  cases d' with
  | non => rw [Has.non_iff] at h'; subst h'; cases r'; exact EqAt.same _
  | bl b => rw [Has.bl_iff] at h'; subst h'; cases r'; exact EqAt.none_bool _
  | int b => rw [Has.int_iff] at h'; subst h'; obtain ⟨t, rfl⟩ := r'; exact EqAt.none_int _ _
  | str b => rw [Has.str_iff] at h'; subst h'; obtain ⟨t, rfl⟩ := r'; exact EqAt.none_str _ _
  | tup b => obtain ⟨a, xs, rfl, q, _⟩ := Has.tup_iff.mp h'; cases r'; obtain ⟨its, _, p, _⟩ := I.tuple q; exact EqAt.none_tuple p hu
  | lst b => obtain ⟨a, xs, rfl, q, _⟩ := Has.lst_iff.mp h'; cases r'; obtain ⟨its, _, p, _⟩ := I.list q; exact EqAt.none_list p.isList hu
 | .bl x, A, d', v, v', u, u', h, h', r, r', hu => by
  have hu : A.units < cLine := by omega
  rw [Has.bl_iff] at h; subst h
  cases r
  cases d' with
  | non => rw [Has.non_iff] at h'; subst h'; cases r'; exact EqAt.bool_none _
  | bl b => rw [Has.bl_iff] at h'; subst h'; cases r'; exact EqAt.bool_bool _ _
  | int b => rw [Has.int_iff] at h'; subst h'; obtain ⟨t, rfl⟩ := r'; exact EqAt.bool_int _ _ _
  | str b => rw [Has.str_iff] at h'; subst h'; obtain ⟨t, rfl⟩ := r'; exact EqAt.bool_str _ _ _
  | tup b => obtain ⟨a, xs, rfl, q, _⟩ := Has.tup_iff.mp h'; cases r'; obtain ⟨its, _, p, _⟩ := I.tuple q; exact EqAt.bool_tuple _ p hu
  | lst b => obtain ⟨a, xs, rfl, q, _⟩ := Has.lst_iff.mp h'; cases r'; obtain ⟨its, _, p, _⟩ := I.list q; exact EqAt.bool_list _ p.isList hu
 | .int x, A, d', v, v', u, u', h, h', r, r', hu => by
  have hu : A.units < cLine := by omega
  rw [Has.int_iff] at h; subst h
  obtain ⟨t, rfl⟩ := r
  cases d' with
  | non => rw [Has.non_iff] at h'; subst h'; cases r'; exact EqAt.int_none _ _
  | bl b => rw [Has.bl_iff] at h'; subst h'; cases r'; exact EqAt.int_bool _ _ _
  | int b => rw [Has.int_iff] at h'; subst h'; obtain ⟨t, rfl⟩ := r'; exact EqAt.int_int _ _ _ _
  | str b => rw [Has.str_iff] at h'; subst h'; obtain ⟨t, rfl⟩ := r'; exact EqAt.int_str _ _ _ _
  | tup b => obtain ⟨a, xs, rfl, q, _⟩ := Has.tup_iff.mp h'; cases r'; obtain ⟨its, _, p, _⟩ := I.tuple q; exact EqAt.int_tuple _ _ p hu
  | lst b => obtain ⟨a, xs, rfl, q, _⟩ := Has.lst_iff.mp h'; cases r'; obtain ⟨its, _, p, _⟩ := I.list q; exact EqAt.int_list _ _ p.isList hu
 | .str x, A, d', v, v', u, u', h, h', r, r', hu => by
  have hu : A.units < cLine := by omega
  rw [Has.str_iff] at h; subst h
  obtain ⟨t, rfl⟩ := r
  cases d' with
  | non => rw [Has.non_iff] at h'; subst h'; cases r'; exact EqAt.str_none _ _
  | bl b => rw [Has.bl_iff] at h'; subst h'; cases r'; exact EqAt.str_bool _ _ _
  | int b => rw [Has.int_iff] at h'; subst h'; obtain ⟨t, rfl⟩ := r'; exact EqAt.str_int _ _ _ _
  | str b => rw [Has.str_iff] at h'; subst h'; obtain ⟨t, rfl⟩ := r'; exact EqAt.str_str _ _ _ _
  | tup b => obtain ⟨a, xs, rfl, q, _⟩ := Has.tup_iff.mp h'; cases r'; obtain ⟨its, _, p, _⟩ := I.tuple q; exact EqAt.str_tuple _ _ p hu
  | lst b => obtain ⟨a, xs, rfl, q, _⟩ := Has.lst_iff.mp h'; cases r'; obtain ⟨its, _, p, _⟩ := I.list q; exact EqAt.str_list _ _ p.isList hu
 | .tup x, A, d', v, v', u, u', h, h', r, r', hu => by
  have hu0 : A.units < cLine := by omega
  obtain ⟨a, xs, rfl, q, l⟩ := Has.tup_iff.mp h
  cases r
  obtain ⟨its, rv, p, _⟩ := I.tuple q
  cases d' with
  | non => rw [Has.non_iff] at h'; subst h'; cases r'; exact EqAt.tuple_none p hu0
  | bl b => rw [Has.bl_iff] at h'; subst h'; cases r'; exact EqAt.tuple_bool _ p hu0
  | int b => rw [Has.int_iff] at h'; subst h'; obtain ⟨t, rfl⟩ := r'; exact EqAt.tuple_int _ _ p hu0
  | str b => rw [Has.str_iff] at h'; subst h'; obtain ⟨t, rfl⟩ := r'; exact EqAt.tuple_str _ _ p hu0
  | tup y =>
   obtain ⟨b, ys, rfl, q', l'⟩ := Has.tup_iff.mp h'
   cases r'
   obtain ⟨its', rv', p', _⟩ := I.tuple q'
   by_cases hab : a = b
   ·subst hab
    cases Has.inj I h h'
    rw [Ys]
    exact EqAt.same _
   ·refine EqAt.of_refs hab ?_
    have e := RcAt.tuples (A := A) (e := fun j => eqD (x.getD j .non) (y.getD j .non)) p p' hu0 (fun j h1 h2 => ug I x A.in1 y xs ys its its' l l' rv rv' (by show A.units + 1 + _ < cLine; unfold dep at hu; omega) j (by simpa using h1) (by simpa using h2))
    unfold eqD
    rw [qp, <- l.length, <- l'.length, rv.length, rv'.length]
    simpa using e
  | lst y => obtain ⟨b, ys, rfl, q', l'⟩ := Has.lst_iff.mp h'; cases r'; obtain ⟨its', _, p', _⟩ := I.list q'; exact EqAt.tuple_list p p'.isList hu0
 | .lst x, A, d', v, v', u, u', h, h', r, r', hu => by
  have hu0 : A.units < cLine := by omega
  obtain ⟨a, xs, rfl, q, l⟩ := Has.lst_iff.mp h
  cases r
  obtain ⟨its, rv, p, _⟩ := I.list q
  cases d' with
  | non => rw [Has.non_iff] at h'; subst h'; cases r'; exact EqAt.list_none p.isList hu0
  | bl b => rw [Has.bl_iff] at h'; subst h'; cases r'; exact EqAt.list_bool _ p.isList hu0
  | int b => rw [Has.int_iff] at h'; subst h'; obtain ⟨t, rfl⟩ := r'; exact EqAt.list_int _ _ p.isList hu0
  | str b => rw [Has.str_iff] at h'; subst h'; obtain ⟨t, rfl⟩ := r'; exact EqAt.list_str _ _ p.isList hu0
  | lst y =>
   obtain ⟨b, ys, rfl, q', l'⟩ := Has.lst_iff.mp h'
   cases r'
   obtain ⟨its', rv', p', _⟩ := I.list q'
   by_cases hab : a = b
   ·subst hab
    cases Has.inj I h h'
    rw [Ys]
    exact EqAt.same _
   ·refine EqAt.of_refs hab ?_
    unfold eqD
    rw [qp, <- l.length, <- l'.length, rv.length, rv'.length]
    by_cases hl : its.length = its'.length
    ·have e := RcAt.lists (A := A) (e := fun j => eqD (x.getD j .non) (y.getD j .non)) p.isList p'.isList (by simpa using hl) hu0 (fun j h1 h2 => ug I x A.in1 y xs ys its its' l l' rv rv' (by show A.units + 1 + _ < cLine; unfold dep at hu; omega) j (by simpa using h1) (by simpa using h2))
     rw [<- hl, Nat.min_self]
     simpa using e
    ·have e := RcAt.lists_lengths (A := A) p.isList p'.isList (by simpa using hl) hu0
     have : (its.length == its'.length) = false := by simpa using hl
     rw [this, Bool.and_false]
     exact e
  | tup y => obtain ⟨b, ys, rfl, q', l'⟩ := Has.tup_iff.mp h'; cases r'; obtain ⟨its', _, p', _⟩ := I.tuple q'; exact EqAt.list_tuple p.isList p' hu0
theorem ug (I : Inv X pins σ H s) : ∀ (ds : List D) (A : Around) (ds' : List D) (xs ys : List V) (us us' : List Value), z7 X.K H ds xs -> z7 X.K H ds' ys -> xk xs us -> xk ys us' -> A.units + qh ds < cLine →
  ∀ (j : Nat) (h1 : j < us.length) (h2 : j < us'.length), EqAt A s us[j] us'[j] (eqD (ds.getD j .non) (ds'.getD j .non))
 | [], A, ds', xs, ys, us, us', l, l', r, r', hu, j, h1, h2 => by
  rw [z7.nil_iff] at l; subst l
  cases r
  simp at h1
 | d :: ds, A, ds', xs, ys, us, us', l, l', r, r', hu, j, h1, h2 => by
  obtain ⟨x, xr, rfl, hx, hr⟩ := z7.cons_iff.mp l
  cases ds' with
  | nil =>
   rw [z7.nil_iff] at l'; subst l'
   cases r'
   simp at h2
  | cons d' ds' =>
   obtain ⟨y, yr, rfl, hy, hyr⟩ := z7.cons_iff.mp l'
   cases r with
   | cons r rr =>
    cases r' with
    | cons r' rr' =>
     unfold qh at hu
     cases j with
     | zero => exact Jh I d A d' _ _ _ _ hx hy r r' (by have := Nat.le_max_left (dep d) (qh ds); omega)
     | succ j => exact ug I ds A ds' _ _ _ _ hr hyr rr rr' (by have := Nat.le_max_right (dep d) (qh ds); omega) j (by simpa using h1) (by simpa using h2)
end
open SeqAt in
theorem G8 (I : Inv X pins σ H s) (d : D) (A : Around) (d' : D) (v v' : V) (u u' : Value) (h : Has X.K H d v) (h' : Has X.K H d' v') (r : xK v u) (r' : xK v' u') (hu : A.units + dep d < cLine) : RcAt A s u u' (eqD d d') := by
 have hu0 : A.units < cLine := by omega
 cases d with
 | non =>
  rw [Has.non_iff] at h; subst h
  cases r
  cases d' with
  | non => rw [Has.non_iff] at h'; subst h'; cases r'; exact RcAt.none_none
  | bl b => rw [Has.bl_iff] at h'; subst h'; cases r'; exact RcAt.none_bool _
  | int b => rw [Has.int_iff] at h'; subst h'; obtain ⟨t, rfl⟩ := r'; exact RcAt.none_int _ _
  | str b => rw [Has.str_iff] at h'; subst h'; obtain ⟨t, rfl⟩ := r'; exact RcAt.none_str _ _
  | tup b => obtain ⟨a, xs, rfl, q, _⟩ := Has.tup_iff.mp h'; cases r'; obtain ⟨its, _, p, _⟩ := I.tuple q; exact RcAt.none_tuple p hu0
  | lst b => obtain ⟨a, xs, rfl, q, _⟩ := Has.lst_iff.mp h'; cases r'; obtain ⟨its, _, p, _⟩ := I.list q; exact RcAt.none_list p.isList hu0
 | bl x =>
  rw [Has.bl_iff] at h; subst h
  cases r
  cases d' with
  | non => rw [Has.non_iff] at h'; subst h'; cases r'; exact RcAt.bool_none _
  | bl b => rw [Has.bl_iff] at h'; subst h'; cases r'; exact RcAt.bool_bool _ _
  | int b => rw [Has.int_iff] at h'; subst h'; obtain ⟨t, rfl⟩ := r'; exact RcAt.bool_int _ _ _
  | str b => rw [Has.str_iff] at h'; subst h'; obtain ⟨t, rfl⟩ := r'; exact RcAt.bool_str _ _ _
  | tup b => obtain ⟨a, xs, rfl, q, _⟩ := Has.tup_iff.mp h'; cases r'; obtain ⟨its, _, p, _⟩ := I.tuple q; exact RcAt.bool_tuple _ p hu0
  | lst b => obtain ⟨a, xs, rfl, q, _⟩ := Has.lst_iff.mp h'; cases r'; obtain ⟨its, _, p, _⟩ := I.list q; exact RcAt.bool_list _ p.isList hu0
 | int x =>
  rw [Has.int_iff] at h; subst h
  obtain ⟨t, rfl⟩ := r
  cases d' with
  | non => rw [Has.non_iff] at h'; subst h'; cases r'; exact RcAt.int_none _ _
  | bl b => rw [Has.bl_iff] at h'; subst h'; cases r'; exact RcAt.int_bool _ _ _
  | int b => rw [Has.int_iff] at h'; subst h'; obtain ⟨t, rfl⟩ := r'; exact RcAt.int_int _ _ _ _
  | str b => rw [Has.str_iff] at h'; subst h'; obtain ⟨t, rfl⟩ := r'; exact RcAt.int_str _ _ _ _
  | tup b => obtain ⟨a, xs, rfl, q, _⟩ := Has.tup_iff.mp h'; cases r'; obtain ⟨its, _, p, _⟩ := I.tuple q; exact RcAt.int_tuple _ _ p hu0
  | lst b => obtain ⟨a, xs, rfl, q, _⟩ := Has.lst_iff.mp h'; cases r'; obtain ⟨its, _, p, _⟩ := I.list q; exact RcAt.int_list _ _ p.isList hu0
 | str x =>
  rw [Has.str_iff] at h; subst h
  obtain ⟨t, rfl⟩ := r
  cases d' with
  | non => rw [Has.non_iff] at h'; subst h'; cases r'; exact RcAt.str_none _ _
  | bl b => rw [Has.bl_iff] at h'; subst h'; cases r'; exact RcAt.str_bool _ _ _
  | int b => rw [Has.int_iff] at h'; subst h'; obtain ⟨t, rfl⟩ := r'; exact RcAt.str_int _ _ _ _
  | str b => rw [Has.str_iff] at h'; subst h'; obtain ⟨t, rfl⟩ := r'; exact RcAt.str_str _ _ _ _
  | tup b => obtain ⟨a, xs, rfl, q, _⟩ := Has.tup_iff.mp h'; cases r'; obtain ⟨its, _, p, _⟩ := I.tuple q; exact RcAt.str_tuple _ _ p hu0
  | lst b => obtain ⟨a, xs, rfl, q, _⟩ := Has.lst_iff.mp h'; cases r'; obtain ⟨its, _, p, _⟩ := I.list q; exact RcAt.str_list _ _ p.isList hu0
 | tup x =>
  obtain ⟨a, xs, rfl, q, l⟩ := Has.tup_iff.mp h
  cases r
  obtain ⟨its, rv, p, _⟩ := I.tuple q
  cases d' with
  | non => rw [Has.non_iff] at h'; subst h'; cases r'; exact RcAt.tuple_none p hu0
  | bl b => rw [Has.bl_iff] at h'; subst h'; cases r'; exact RcAt.tuple_bool _ p hu0
  | int b => rw [Has.int_iff] at h'; subst h'; obtain ⟨t, rfl⟩ := r'; exact RcAt.tuple_int _ _ p hu0
  | str b => rw [Has.str_iff] at h'; subst h'; obtain ⟨t, rfl⟩ := r'; exact RcAt.tuple_str _ _ p hu0
  | tup y =>
   obtain ⟨b, ys, rfl, q', l'⟩ := Has.tup_iff.mp h'
   cases r'
   obtain ⟨its', rv', p', _⟩ := I.tuple q'
   have e := RcAt.tuples (A := A) (e := fun j => eqD (x.getD j .non) (y.getD j .non)) p p' hu0 (fun j h1 h2 => ug I x A.in1 y xs ys its its' l l' rv rv' (by show A.units + 1 + _ < cLine; unfold dep at hu; omega) j (by simpa using h1) (by simpa using h2))
   unfold eqD
   rw [qp, <- l.length, <- l'.length, rv.length, rv'.length]
   simpa using e
  | lst y => obtain ⟨b, ys, rfl, q', l'⟩ := Has.lst_iff.mp h'; cases r'; obtain ⟨its', _, p', _⟩ := I.list q'; exact RcAt.tuple_list p p'.isList hu0
 | lst x =>
  obtain ⟨a, xs, rfl, q, l⟩ := Has.lst_iff.mp h
  cases r
  obtain ⟨its, rv, p, _⟩ := I.list q
  cases d' with
  | non => rw [Has.non_iff] at h'; subst h'; cases r'; exact RcAt.list_none p.isList hu0
  | bl b => rw [Has.bl_iff] at h'; subst h'; cases r'; exact RcAt.list_bool _ p.isList hu0
  | int b => rw [Has.int_iff] at h'; subst h'; obtain ⟨t, rfl⟩ := r'; exact RcAt.list_int _ _ p.isList hu0
  | str b => rw [Has.str_iff] at h'; subst h'; obtain ⟨t, rfl⟩ := r'; exact RcAt.list_str _ _ p.isList hu0
  | lst y =>
   obtain ⟨b, ys, rfl, q', l'⟩ := Has.lst_iff.mp h'
   cases r'
   obtain ⟨its', rv', p', _⟩ := I.list q'
   unfold eqD
   rw [qp, <- l.length, <- l'.length, rv.length, rv'.length]
   by_cases hl : its.length = its'.length
   ·have e := RcAt.lists (A := A) (e := fun j => eqD (x.getD j .non) (y.getD j .non)) p.isList p'.isList (by simpa using hl) hu0 (fun j h1 h2 => ug I x A.in1 y xs ys its its' l l' rv rv' (by show A.units + 1 + _ < cLine; unfold dep at hu; omega) j (by simpa using h1) (by simpa using h2))
    rw [<- hl, Nat.min_self]
    simpa using e
   ·have e := RcAt.lists_lengths (A := A) p.isList p'.isList (by simpa using hl) hu0
    have : (its.length == its'.length) = false := by simpa using hl
    rw [this, Bool.and_false]
    exact e
  | tup y => obtain ⟨b, ys, rfl, q', l'⟩ := Has.tup_iff.mp h'; cases r'; obtain ⟨its', _, p', _⟩ := I.tuple q'; exact RcAt.list_tuple p.isList p' hu0
open SeqAt in
theorem G7 (I : Inv X pins σ H s) (d : D) (A : Around) (d' : D) (v v' : V) (u u' : Value) (h : Has X.K H d v) (h' : Has X.K H d' v') (r : xK v u) (r' : xK v' u') (hu : A.units + dep d < cLine) : RcNeAt A s u u' (!eqD d d') := by
 have hu0 : A.units < cLine := by omega
 cases d with
 | non =>
  rw [Has.non_iff] at h; subst h
  cases r
  cases d' with
  | non => rw [Has.non_iff] at h'; subst h'; cases r'; exact RcNeAt.none_none
  | bl b => rw [Has.bl_iff] at h'; subst h'; cases r'; exact RcNeAt.none_bool _
  | int b => rw [Has.int_iff] at h'; subst h'; obtain ⟨t, rfl⟩ := r'; exact RcNeAt.none_int _ _
  | str b => rw [Has.str_iff] at h'; subst h'; obtain ⟨t, rfl⟩ := r'; exact RcNeAt.none_str _ _
  | tup b => obtain ⟨a, xs, rfl, q, _⟩ := Has.tup_iff.mp h'; cases r'; obtain ⟨its, _, p, _⟩ := I.tuple q; exact RcNeAt.none_tuple p hu0
  | lst b => obtain ⟨a, xs, rfl, q, _⟩ := Has.lst_iff.mp h'; cases r'; obtain ⟨its, _, p, _⟩ := I.list q; exact RcNeAt.none_list p.isList hu0
 | bl x =>
  rw [Has.bl_iff] at h; subst h
  cases r
  cases d' with
  | non => rw [Has.non_iff] at h'; subst h'; cases r'; exact RcNeAt.bool_none _
  | bl b => rw [Has.bl_iff] at h'; subst h'; cases r'; exact RcNeAt.bool_bool _ _
  | int b => rw [Has.int_iff] at h'; subst h'; obtain ⟨t, rfl⟩ := r'; exact RcNeAt.bool_int _ _ _
  | str b => rw [Has.str_iff] at h'; subst h'; obtain ⟨t, rfl⟩ := r'; exact RcNeAt.bool_str _ _ _
  | tup b => obtain ⟨a, xs, rfl, q, _⟩ := Has.tup_iff.mp h'; cases r'; obtain ⟨its, _, p, _⟩ := I.tuple q; exact RcNeAt.bool_tuple _ p hu0
  | lst b => obtain ⟨a, xs, rfl, q, _⟩ := Has.lst_iff.mp h'; cases r'; obtain ⟨its, _, p, _⟩ := I.list q; exact RcNeAt.bool_list _ p.isList hu0
 | int x =>
  rw [Has.int_iff] at h; subst h
  obtain ⟨t, rfl⟩ := r
  cases d' with
  | non => rw [Has.non_iff] at h'; subst h'; cases r'; exact RcNeAt.int_none _ _
  | bl b => rw [Has.bl_iff] at h'; subst h'; cases r'; exact RcNeAt.int_bool _ _ _
  | int b => rw [Has.int_iff] at h'; subst h'; obtain ⟨t, rfl⟩ := r'; exact RcNeAt.int_int _ _ _ _
  | str b => rw [Has.str_iff] at h'; subst h'; obtain ⟨t, rfl⟩ := r'; exact RcNeAt.int_str _ _ _ _
  | tup b => obtain ⟨a, xs, rfl, q, _⟩ := Has.tup_iff.mp h'; cases r'; obtain ⟨its, _, p, _⟩ := I.tuple q; exact RcNeAt.int_tuple _ _ p hu0
  | lst b => obtain ⟨a, xs, rfl, q, _⟩ := Has.lst_iff.mp h'; cases r'; obtain ⟨its, _, p, _⟩ := I.list q; exact RcNeAt.int_list _ _ p.isList hu0
 | str x =>
  rw [Has.str_iff] at h; subst h
  obtain ⟨t, rfl⟩ := r
  cases d' with
  | non => rw [Has.non_iff] at h'; subst h'; cases r'; exact RcNeAt.str_none _ _
  | bl b => rw [Has.bl_iff] at h'; subst h'; cases r'; exact RcNeAt.str_bool _ _ _
  | int b => rw [Has.int_iff] at h'; subst h'; obtain ⟨t, rfl⟩ := r'; exact RcNeAt.str_int _ _ _ _
  | str b => rw [Has.str_iff] at h'; subst h'; obtain ⟨t, rfl⟩ := r'; exact RcNeAt.str_str _ _ _ _
  | tup b => obtain ⟨a, xs, rfl, q, _⟩ := Has.tup_iff.mp h'; cases r'; obtain ⟨its, _, p, _⟩ := I.tuple q; exact RcNeAt.str_tuple _ _ p hu0
  | lst b => obtain ⟨a, xs, rfl, q, _⟩ := Has.lst_iff.mp h'; cases r'; obtain ⟨its, _, p, _⟩ := I.list q; exact RcNeAt.str_list _ _ p.isList hu0
 | tup x =>
  obtain ⟨a, xs, rfl, q, l⟩ := Has.tup_iff.mp h
  cases r
  obtain ⟨its, rv, p, _⟩ := I.tuple q
  cases d' with
  | non => rw [Has.non_iff] at h'; subst h'; cases r'; exact RcNeAt.tuple_none p hu0
  | bl b => rw [Has.bl_iff] at h'; subst h'; cases r'; exact RcNeAt.tuple_bool _ p hu0
  | int b => rw [Has.int_iff] at h'; subst h'; obtain ⟨t, rfl⟩ := r'; exact RcNeAt.tuple_int _ _ p hu0
  | str b => rw [Has.str_iff] at h'; subst h'; obtain ⟨t, rfl⟩ := r'; exact RcNeAt.tuple_str _ _ p hu0
  | tup y =>
   obtain ⟨b, ys, rfl, q', l'⟩ := Has.tup_iff.mp h'
   cases r'
   obtain ⟨its', rv', p', _⟩ := I.tuple q'
   have e := RcNeAt.tuples (A := A) (e := fun j => eqD (x.getD j .non) (y.getD j .non)) p p' hu0 (fun j h1 h2 => ug I x A.in1 y xs ys its its' l l' rv rv' (by show A.units + 1 + _ < cLine; unfold dep at hu; omega) j (by simpa using h1) (by simpa using h2))
   unfold eqD
   rw [qp, <- l.length, <- l'.length, rv.length, rv'.length]
   simpa using e
  | lst y => obtain ⟨b, ys, rfl, q', l'⟩ := Has.lst_iff.mp h'; cases r'; obtain ⟨its', _, p', _⟩ := I.list q'; exact RcNeAt.tuple_list p p'.isList hu0
 | lst x =>
  obtain ⟨a, xs, rfl, q, l⟩ := Has.lst_iff.mp h
  cases r
  obtain ⟨its, rv, p, _⟩ := I.list q
  cases d' with
  | non => rw [Has.non_iff] at h'; subst h'; cases r'; exact RcNeAt.list_none p.isList hu0
  | bl b => rw [Has.bl_iff] at h'; subst h'; cases r'; exact RcNeAt.list_bool _ p.isList hu0
  | int b => rw [Has.int_iff] at h'; subst h'; obtain ⟨t, rfl⟩ := r'; exact RcNeAt.list_int _ _ p.isList hu0
  | str b => rw [Has.str_iff] at h'; subst h'; obtain ⟨t, rfl⟩ := r'; exact RcNeAt.list_str _ _ p.isList hu0
  | lst y =>
   obtain ⟨b, ys, rfl, q', l'⟩ := Has.lst_iff.mp h'
   cases r'
   obtain ⟨its', rv', p', _⟩ := I.list q'
   unfold eqD
   rw [qp, <- l.length, <- l'.length, rv.length, rv'.length]
   by_cases hl : its.length = its'.length
   ·have e := RcNeAt.lists (A := A) (e := fun j => eqD (x.getD j .non) (y.getD j .non)) p.isList p'.isList (by simpa using hl) hu0 (fun j h1 h2 => ug I x A.in1 y xs ys its its' l l' rv rv' (by show A.units + 1 + _ < cLine; unfold dep at hu; omega) j (by simpa using h1) (by simpa using h2))
    rw [<- hl, Nat.min_self]
    simpa using e
   ·have e := RcNeAt.lists_lengths (A := A) p.isList p'.isList (by simpa using hl) hu0
    have : (its.length == its'.length) = false := by simpa using hl
    rw [this, Bool.and_false]
    exact e
  | tup y => obtain ⟨b, ys, rfl, q', l'⟩ := Has.tup_iff.mp h'; cases r'; obtain ⟨its', _, p', _⟩ := I.tuple q'; exact RcNeAt.list_tuple p.isList p' hu0
end
theorem js.full {K : W.Frag} {H₀ Hf₀ H Hf : Hp} {σ : St} {ρ : Rho} {d : D} {v : V} (h : js K Hf σ ρ d v) (R : Rep K H₀ Hf₀ σ ρ H Hf) : Has K H d v := by
 rcases h with h | ⟨i, ds, rfl, e1, e2⟩
 ·exact h.mono R.sf
 ·obtain ⟨a, p1, ⟨xs, p2, p3⟩, _⟩ := R.ow i _ e1 rfl
  rw [e2] at p1; cases p1
  exact Has.lst_iff.mpr ⟨a, xs, rfl, SqL.of p2, p3.mono R.sf⟩
section
variable {X : Cx} {e a b c : Expr} {es : List Expr} {f g h : FE} {fa ga : FA} {ft gt : FT} {pos : Pos} {t t' : TE} {kk : Nat}
def Mf (K : W.Frag) : R2 := fun x y H Q => ∃ d d', Has K H d x /\ Has K H d' y /\ dep d <= 100 /\ Q (.bl (eqD d d')) H
def Mb (K : W.Frag) : R2 := fun x y H Q => ∃ d d', Has K H d x /\ Has K H d' y /\ dep d <= 100 /\ Q (.bl (!eqD d d')) H
theorem Qq (hr : Room kk X.A) : OpR X (compareOp .Eq) (Mf X.K) := by
 intro pins s σ H x y v u Q I rx ry h
 obtain ⟨d, d', h1, h2, h3, q⟩ := h
 exact G8 I d X.A d' x y v u h1 h2 rx ry (by have := hr.un; omega) X.prog X.w X.xe _ ⟨.bl _, H, I, rfl, q⟩
theorem Cz (hr : Room kk X.A) : OpR X (compareOp .NotEq) (Mb X.K) := by
 intro pins s σ H x y v u Q I rx ry h
 obtain ⟨d, d', h1, h2, h3, q⟩ := h
 exact G7 I d X.A d' x y v u h1 h2 rx ry (by have := hr.un; omega) X.prog X.w X.xe _ ⟨.bl _, H, I, rfl, q⟩
def eqF : D -> D -> Option D := fun x y => if dep x <= 100 then some (.bl (eqD x y)) else none
def neF : D -> D -> Option D := fun x y => if dep x <= 100 then some (.bl (!eqD x y)) else none
theorem Qu : OpD X (Mf X.K) eqF := by
 intro σ ρ H₀ Hf₀ H Hf x y dx dy d Q R hx hy hφ k
 unfold eqF at hφ
 split at hφ
 ·cases hφ
  exact ⟨dx, dy, hx.full R, hy.full R, by assumption, k _ _ _ R zv zv (Has.bl_iff.mpr rfl)⟩
 ·cases hφ
theorem CC : OpD X (Mb X.K) neF := by
 intro σ ρ H₀ Hf₀ H Hf x y dx dy d Q R hx hy hφ k
 unfold neF at hφ
 split at hφ
 ·cases hφ
  exact ⟨dx, dy, hx.full R, hy.full R, by assumption, k _ _ _ R zv zv (Has.bl_iff.mpr rfl)⟩
 ·cases hφ
theorem BD (hr : Room kk X.A) (ha : DR X a f) (hb : DR X b g) : DE X (.Compare a [.Eq] [b] pos) (zc eqF f g) := KZ (Qq hr) Qu ha hb (qd _)
theorem vn (hr : Room kk X.A) (ha : DR X a f) (hb : DR X b g) : DT X (.Compare a [.Eq] [b] pos) (blF (zc eqF f g)) := xP (Qq hr) Qu ha hb (qd _)
theorem Yv (hr : Room kk X.A) (ha : DR X a f) (hb : DR X b g) : DT X (.Compare a [.NotEq] [b] pos) (blF (zc neF f g)) := xP (Cz hr) CC ha hb (qd _)
def FnR (X : Cx) (r : List V -> Hp -> VK -> Prop) (φ : List D -> Option D) : Prop :=
 ∀ (σ : St) (ρ : Rho) (H₀ Hf₀ H Hf : Hp) (xs : List V) (ds : List D) (d : D) (Q : VK), Rep X.K H₀ Hf₀ σ ρ H Hf -> UA X.K Hf σ ρ ds xs -> φ ds = some d →
  (∀ v H' Hf', Rep X.K H₀ Hf₀ σ ρ H' Hf' -> yp H H' -> yp Hf Hf' -> Has X.K Hf' d v -> Q v H') -> r xs H Q
def z5 (φ : List D -> Option D) (fa : FA) : FE := fun ρ => (fa ρ).bind φ
theorem yz {α : Type} {f : FA} {k : List D -> Option α} {ρ : Rho} {r : α} (h : (f ρ).bind k = some r) : ∃ b, f ρ = some b /\ k b = some r := by
 cases hf : f ρ with
 | none => rw [hf] at h; cases h
 | some x => rw [hf] at h; exact ⟨x, rfl, h⟩
theorem K9 {r : List V -> Hp -> VK -> Prop} {φ : List D -> Option D} (hφ : FnR X r φ) (σ : St) (H : Hp) (Q : VK) (hh : tF X.K (z5 φ fa) σ H Q) : tCB r (tAR X.K fa) σ H Q := by
 obtain ⟨H₀, Hf₀, ρ, Hf, d, R, q, k⟩ := hh
 obtain ⟨ds, e1, e2⟩ := yz q
 exact ⟨H₀, Hf₀, ρ, Hf, ds, R, e1, fun vs H1 Hf1 R1 s1 t1 h1 => hφ σ ρ H₀ Hf₀ H1 Hf1 vs ds d Q R1 h1 e2 fun v H2 Hf2 R2 s2 t2 h2 => k _ _ _ R2 (s1.trans s2) (t1.trans t2) h2⟩
theorem wD {id : String} {x : Str} {p : Pos} {r : List V -> Hp -> VK -> Prop} {φ : List D -> Option D} (hc : uC X (.builtin id) r) (hφ : FnR X r φ) (hg : Gl X x) (hm : X.mg x = none) (hv : bootBuiltins x = some (.builtin id)) (ha : DAR X (e :: es) fa)
  (hn : x ≠ "__name__" := by decide) (hdb : (x == ("__debug__" : Str)) = false := by decide)
  (he : starEach (e :: es) X.env = (false, eval e X.env) :: starEach es X.env := by rfl) (hpl : (backTo pos (starEach es X.env)).any (·.1) = false := by rfl) : DE X (.Call (.Name x p) (e :: es) [] pos) (z5 φ fa) :=
 yV (Yf hc hg hm hv ha hn hdb he hpl) (K9 hφ)
theorem uX {T : String} {x : Str} {p : Pos} {r : List V -> Hp -> VK -> Prop} {φ : List D -> Option D} (hc : uC X (.type T) r) (hφ : FnR X r φ) (hg : Gl X x) (hm : X.mg x = none) (hv : bootBuiltins x = some (.type T)) (ha : DAR X (e :: es) fa)
  (hn : x ≠ "__name__" := by decide) (hdb : (x == ("__debug__" : Str)) = false := by decide)
  (he : starEach (e :: es) X.env = (false, eval e X.env) :: starEach es X.env := by rfl) (hpl : (backTo pos (starEach es X.env)).any (·.1) = false := by rfl) : DE X (.Call (.Name x p) (e :: es) [] pos) (z5 φ fa) :=
 yV (Qk hc hg hm hv ha hn hdb he hpl) (K9 hφ)
theorem UA.one {K : W.Frag} {Hf : Hp} {σ : St} {ρ : Rho} {d : D} {xs : List V} (h : UA K Hf σ ρ [d] xs) : ∃ v, xs = [v] /\ js K Hf σ ρ d v := by
 cases h with
 | cons h1 h2 => cases h2; exact ⟨_, rfl, h1⟩
theorem UA.two {K : W.Frag} {Hf : Hp} {σ : St} {ρ : Rho} {d d' : D} {xs : List V} (h : UA K Hf σ ρ [d, d'] xs) : ∃ v v', xs = [v, v'] /\ js K Hf σ ρ d v /\ js K Hf σ ρ d' v' := by
 cases h with
 | cons h1 h2 =>
  cases h2 with
  | cons h2 h3 => cases h3; exact ⟨_, _, rfl, h1, h2⟩
def Zi : List D -> Option D
 | [.lst ds] => some (.int ds.length)
 | [.tup ds] => some (.int ds.length)
 | [.str x] => if x.length <= sizeLine then some (.int x.length) else none
 | _ => none
theorem wy : uC X (.builtin "len") (fun xs H Q => (∃ p ys, xs = [.ref p] /\ (SqL X.K H p ys \/ SqT X.K H p ys) /\ Q (.int ys.length) H) \/ (∃ z, xs = [.str z] /\ z.length <= sizeLine /\ Q (.int z.length) H)) := uC.or XT XS
theorem ql : FnR X (fun xs H Q => (∃ p ys, xs = [.ref p] /\ (SqL X.K H p ys \/ SqT X.K H p ys) /\ Q (.int ys.length) H) \/ (∃ z, xs = [.str z] /\ z.length <= sizeLine /\ Q (.int z.length) H)) Zi := by
 intro σ ρ H₀ Hf₀ H Hf xs ds d Q R hx hφ k
 unfold Zi at hφ
 split at hφ
 ·cases hφ
  obtain ⟨v, rfl, hv⟩ := hx.one
  obtain ⟨a, ys, rfl, q, l⟩ := hv.lst R
  exact .inl ⟨a, ys, rfl, .inl q, k _ _ _ R zv zv (by rw [<- l.length]; exact Has.int_iff.mpr rfl)⟩
 ·cases hφ
  obtain ⟨v, rfl, hv⟩ := hx.one
  obtain ⟨a, ys, rfl, q, l⟩ := hv.tup R
  exact .inl ⟨a, ys, rfl, .inr q, k _ _ _ R zv zv (by rw [<- l.length]; exact Has.int_iff.mpr rfl)⟩
 ·split at hφ
  ·cases hφ
   obtain ⟨v, rfl, hv⟩ := hx.one
   exact .inr ⟨_, by rw [hv.str], by assumption, k _ _ _ R zv zv (Has.int_iff.mpr rfl)⟩
  ·cases hφ
 ·cases hφ
def MX : List D -> Option D
 | [.int i] => some (.int (if i < 0 then -i else i))
 | _ => none
def BB : List D -> Option D
 | [.int i, .int j] => some (.int (if j > i then j else i))
 | _ => none
def BA : List D -> Option D
 | [.int i, .int j] => some (.int (if j < i then j else i))
 | _ => none
theorem Jb : FnR X (fun xs H Q => ∃ i j, xs = [.int i, .int j] /\ Q (.int (if j > i then j else i)) H) BB := by
 intro σ ρ H₀ Hf₀ H Hf xs ds d Q R hx hφ k
 unfold BB at hφ
 split at hφ
 ·cases hφ
  obtain ⟨v, v', rfl, hv, hv'⟩ := hx.two
  exact ⟨_, _, by rw [hv.int, hv'.int], k _ _ _ R zv zv (Has.int_iff.mpr rfl)⟩
 ·cases hφ
theorem Ja : FnR X (fun xs H Q => ∃ i j, xs = [.int i, .int j] /\ Q (.int (if j < i then j else i)) H) BA := by
 intro σ ρ H₀ Hf₀ H Hf xs ds d Q R hx hφ k
 unfold BA at hφ
 split at hφ
 ·cases hφ
  obtain ⟨v, v', rfl, hv, hv'⟩ := hx.two
  exact ⟨_, _, by rw [hv.int, hv'.int], k _ _ _ R zv zv (Has.int_iff.mpr rfl)⟩
 ·cases hφ
def GA : List D -> Option D
 | [.int i] => some (.int i)
 | [.bl b] => some (.int (if b then 1 else 0))
 | _ => none
theorem Jc : FnR X (fun xs H Q => (∃ i, xs = [.int i] /\ Q (.int i) H) \/ ∃ k, xs = [.bl k] /\ Q (.int (if k then 1 else 0)) H) GA := by
 intro σ ρ H₀ Hf₀ H Hf xs ds d Q R hx hφ k
 unfold GA at hφ
 split at hφ
 ·cases hφ
  obtain ⟨v, rfl, hv⟩ := hx.one
  exact .inl ⟨_, by rw [hv.int], k _ _ _ R zv zv (Has.int_iff.mpr rfl)⟩
 ·cases hφ
  obtain ⟨v, rfl, hv⟩ := hx.one
  exact .inr ⟨_, by rw [hv.bl], k _ _ _ R zv zv (Has.int_iff.mpr rfl)⟩
 ·cases hφ
def yq (F G : FS) : FS := fun ρ => (F ρ).bind fun o => match o with
 | .nx ρ' => G ρ'
 | o => some o
def nxF : FS := fun ρ => some (.nx ρ)
variable {st : Stmt} {sts rest : List Stmt} {F G : FS}
theorem jq {α : Type} {F : FS} {k : Out -> Option α} {ρ : Rho} {r : α} (h : (F ρ).bind k = some r) : ∃ b, F ρ = some b /\ k b = some r := by
 cases hf : F ρ with
 | none => rw [hf] at h; cases h
 | some x => rw [hf] at h; exact ⟨x, rfl, h⟩
theorem zN : DSs X [] nxF := Wg Wf fun D' σ H ⟨H₀, Hf₀, ρ, Hf, o, R, q, k⟩ => by cases q; exact k _ _ _ R zv
theorem zf (h1 : DS X st F) (h2 : DSs X rest G) : DSs X (st :: rest) (yq F G) := Wg (xo h1 h2) fun D' σ H ⟨H₀, Hf₀, ρ, Hf, o, R, q, k⟩ => by
 obtain ⟨o1, e1, e2⟩ := jq q
 refine ⟨H₀, Hf₀, ρ, Hf, o1, R, e1, ?_⟩
 cases o1 with
 | nx ρ' =>
  intro σ' H' Hf' R' s'
  refine ⟨H₀, Hf₀, ρ', Hf', o, R', e2, ?_⟩
  cases o with
  | nx _ => exact fun σ2 H2 Hf2 R2 s2 => k _ _ _ R2 (s'.trans s2)
  | bk _ => exact fun σ2 H2 Hf2 R2 s2 => k _ _ _ R2 (s'.trans s2)
  | ct _ => exact fun σ2 H2 Hf2 R2 s2 => k _ _ _ R2 (s'.trans s2)
  | rt _ => exact fun v σ2 ρ2 H2 Hf2 R2 s2 h2 => k _ _ _ _ _ R2 (s'.trans s2) h2
 | bk _ => cases e2; exact k
 | ct _ => cases e2; exact k
 | rt _ => cases e2; exact k
theorem zj (h1 : DS X st F) : DSs X [st] F := vb h1
def yY (f : FE) : FS := fun ρ => (f ρ).bind fun d => some (.rt d)
theorem zD (he : DE X e f) : DS X (.Return (some e) pos) (yY f) := jF (Gi he) fun D' σ H ⟨H₀, Hf₀, ρ, Hf, o, R, q, k⟩ => by
 obtain ⟨d, e1, e2⟩ := zP q
 cases e2
 exact ⟨H₀, Hf₀, ρ, Hf, d, R, e1, fun v H1 Hf1 R1 s1 t1 h1 => k v σ ρ H1 Hf1 R1 t1 h1⟩
def ifS (c : FT) (F G : FS) : FS := fun ρ => (c ρ).bind fun b => if b = true then F ρ else G ρ
theorem Dy.mono {K : W.Frag} {H₀ Hf₀ Hf Hf1 : Hp} {D' : Ends} {o : Out} (k : Dy K H₀ Hf₀ Hf D' o) (t : yp Hf Hf1) : Dy K H₀ Hf₀ Hf1 D' o := by
 cases o with
 | nx _ => exact fun σ2 H2 Hf2 R2 s2 => k _ _ _ R2 (t.trans s2)
 | bk _ => exact fun σ2 H2 Hf2 R2 s2 => k _ _ _ R2 (t.trans s2)
 | ct _ => exact fun σ2 H2 Hf2 R2 s2 => k _ _ _ R2 (t.trans s2)
 | rt _ => exact fun v σ2 ρ2 H2 Hf2 R2 s2 h2 => k _ _ _ _ _ R2 (t.trans s2) h2
theorem y0 {a b : List Stmt} (hc : DT X c ft) (ha : DSs X a F) (hb : DSs X b G) : DS X (.If c a b pos) (ifS ft F G) := jF (Hc hc ha hb) fun D' σ H ⟨H₀, Hf₀, ρ, Hf, o, R, q, k⟩ => by
 obtain ⟨x, e1, e2⟩ := w5 q
 refine ⟨H₀, Hf₀, ρ, Hf, x, R, e1, fun H1 Hf1 R1 s1 t1 => ?_⟩
 cases x with
 | true => exact Ky ⟨H₀, Hf₀, ρ, Hf1, o, R1, e2, k.mono t1⟩
 | false => exact Kz ⟨H₀, Hf₀, ρ, Hf1, o, R1, e2, k.mono t1⟩
def y4 (i : Nat) (f : FE) : FS := fun ρ => (f ρ).bind fun d => some (.nx (ρ.set i (.fr d)))
theorem zV {x : Str} {pos' : Pos} (i : Nat) (hN : X.N.Nodup) (he : DE X e f) (hi : X.N[i]? = some x := by rfl) (hx : Loc X.env.scope x := by first | exact Or.inl rfl | exact Or.inr rfl) (hs : swapsWith e (some (.Name x pos')) pos.line X.env = pure false := by rfl)
  (hf : X.fn x = true \/ X.env.scope.names.lookup x = some .local := by first | exact .inl rfl | exact .inr rfl | assumption) : DS X (.Assign [.Name x pos'] e pos) (y4 i f) :=
 jF (ZD hN hi hx he hs hf) fun D' σ H ⟨H₀, Hf₀, ρ, Hf, o, R, q, k⟩ => by
  obtain ⟨d, e1, e2⟩ := zP q
  cases e2
  exact ⟨H₀, Hf₀, ρ, Hf, d, R, e1, fun v H1 Hf1 R1 s1 t1 h1 => k _ _ _ (R1.set i h1) t1⟩
def BE (i : Nat) (f : FA) : FS := fun ρ => (f ρ).bind fun ds => some (.nx (ρ.set i (.ol ds)))
theorem Yw {x : Str} {pos' : Pos} (i : Nat) (hN : X.N.Nodup) (he : DN X e fa) (hi : X.N[i]? = some x := by rfl) (hx : Loc X.env.scope x := by first | exact Or.inl rfl | exact Or.inr rfl) (hs : swapsWith e (some (.Name x pos')) pos.line X.env = pure false := by rfl)
  (hf : X.fn x = true \/ X.env.scope.names.lookup x = some .local := by first | exact .inl rfl | exact .inr rfl | assumption) : DS X (.Assign [.Name x pos'] e pos) (BE i fa) :=
 jF (ZD hN hi hx he hs hf) fun D' σ H ⟨H₀, Hf₀, ρ, Hf, o, R, q, k⟩ => by
  obtain ⟨d, e1, e2⟩ := yz q
  cases e2
  refine ⟨H₀, Hf₀, ρ, Hf, d, R, e1, fun a xs H1 Hf1 R1 s1 t1 h1 ha hn hh => k _ _ _ (R1.setOwn i rfl ⟨xs, ha, h1⟩ hn (R.s0.free hh) ?_) t1⟩
  intro j sl z o z'
  obtain ⟨b, p1, p2, _⟩ := R.ow j sl z o
  rw [p1] at z'; cases z'
  obtain ⟨ob, q'⟩ := p2.there o
  rw [q'] at hh; cases hh
def frz (i : Nat) (ρ : Rho) : Option Rho := match ρ[i]? with
 | some (.ol ds) => some (ρ.set i (.fr (.lst ds)))
 | some (.fr _) => some ρ
 | _ => none
def C0 (i : Nat) (F : FS) : FS := fun ρ => (frz i ρ).bind F
theorem Ji (i : Nat) (h : DSs X sts F) : DSs X sts (C0 i F) := Wg h fun D' σ H ⟨H₀, Hf₀, ρ, Hf, o, R, q, k⟩ => by
 unfold C0 frz at q
 split at q
 ·rename_i ds e
  obtain ⟨Hf', sm, R'⟩ := R.freeze e
  exact ⟨H₀, Hf₀, _, Hf', o, R', q, k.mono sm⟩
 ·exact ⟨H₀, Hf₀, _, Hf, o, R, q, k⟩
 ·cases q
abbrev FG := D -> Rho -> Option Rho
def tG (K : W.Frag) (γ : FG) : TG := fun v σ H Q => ∃ H₀ Hf₀ ρ Hf d ρ', Rep K H₀ Hf₀ σ ρ H Hf /\ Has K Hf d v /\ γ d ρ = some ρ' /\ ∀ σ' H' Hf', Rep K H₀ Hf₀ σ' ρ' H' Hf' -> yp Hf Hf' -> Q σ' H'
abbrev FGs := List D -> Rho -> Option Rho
def tGs (K : W.Frag) (γ : FGs) : TGs := fun vs σ H Q => ∃ H₀ Hf₀ ρ Hf ds ρ', Rep K H₀ Hf₀ σ ρ H Hf /\ z7 K Hf ds vs /\ γ ds ρ = some ρ' /\ ∀ σ' H' Hf', Rep K H₀ Hf₀ σ' ρ' H' Hf' -> yp Hf Hf' -> Q σ' H'
def DG (X : Cx) (tg : Expr) (γ : FG) : Prop := PG X tg (tG X.K γ)
def DGs (X : Cx) (ts : List Expr) (γ : FGs) : Prop := PGs X ts (tGs X.K γ)
theorem Gp {tg : Expr} {t t' : TG} (h : PG X tg t) (i : ∀ v σ H Q, t' v σ H Q -> t v σ H Q) : PG X tg t' := fun pins s σ H v u Q I r hw => h pins s σ H v u Q I r (i _ _ _ _ hw)
theorem Qj {ts : List Expr} {t t' : TGs} (h : PGs X ts t) (i : ∀ v σ H Q, t' v σ H Q -> t v σ H Q) : PGs X ts t' := fun pins s σ H v u Q I r hw => h pins s σ H v u Q I r (i _ _ _ _ hw)
def zQ (i : Nat) : FG := fun d ρ => some (ρ.set i (.fr d))
theorem ya {x : Str} (i : Nat) (hN : X.N.Nodup) (hi : X.N[i]? = some x := by rfl) (hx : Loc X.env.scope x := by first | exact Or.inl rfl | exact Or.inr rfl) (hf : X.fn x = true \/ X.env.scope.names.lookup x = some .local := by first | exact .inl rfl | exact .inr rfl | assumption) : DG X (.Name x pos) (zQ i) :=
 Gp (ko hN hi hx hf) fun v σ H Q ⟨H₀, Hf₀, ρ, Hf, d, ρ', R, h, q, k⟩ => by
  cases q
  exact k _ _ _ (R.set i h) zv
def YO : FGs := fun ds ρ => match ds with
 | [] => some ρ
 | _ => none
def y7 (γ : FG) (δ : FGs) : FGs := fun ds ρ => match ds with
 | d :: r => (γ d ρ).bind fun ρ' => δ r ρ'
 | _ => none
theorem qq : DGs X [] YO := Qj Qi fun v σ H Q ⟨H₀, Hf₀, ρ, Hf, ds, ρ', R, h, q, k⟩ => by
 cases ds with
 | nil => cases q; exact ⟨z7.nil_iff.mp h, k _ _ _ R zv⟩
 | cons _ _ => cases q
theorem yS {γ : FG} {δ : FGs} (h1 : DG X e γ) (h2 : DGs X es δ) (hs : (assignEach (e :: es) X.env).map (·.2) = assign e X.env :: (assignEach es X.env).map (·.2) := by rfl) : DGs X (e :: es) (y7 γ δ) :=
 Qj (Ye h1 h2 hs) fun v σ H Q ⟨H₀, Hf₀, ρ, Hf, ds, ρ', R, h, q, k⟩ => by
  cases ds with
  | nil => cases q
  | cons d r =>
   obtain ⟨x, xr, rfl, hx, hr⟩ := z7.cons_iff.mp h
   have q : (γ d ρ).bind (fun ρ' => δ r ρ') = some ρ' := q
   cases e1 : γ d ρ with
   | none => rw [e1] at q; cases q
   | some ρ1 =>
    rw [e1] at q
    exact ⟨x, xr, rfl, H₀, Hf₀, ρ, Hf, d, ρ1, R, hx, e1, fun σ1 H1 Hf1 R1 s1 => ⟨H₀, Hf₀, ρ1, Hf1, r, ρ', R1, hr.mono s1, q, fun σ2 H2 Hf2 R2 s2 => k _ _ _ R2 (s1.trans s2)⟩⟩
def Zs (n : Nat) (δ : FGs) : FG := fun d ρ => match d with
 | .tup ds => if ds.length = n then δ ds ρ else none
 | _ => none
theorem kU {kx n : Nat} {δ : FGs} (hc : X.calm = true) (h : DGs X es δ) (hn : (assignEach es X.env).length = n := by rfl) (hst : (assignEach es X.env).findIdx? (·.1) = none := by rfl) : DG X (.Tuple es kx pos) (Zs n δ) :=
 Gp (Gn hc h hn hst) fun v σ H Q ⟨H₀, Hf₀, ρ, Hf, d, ρ', R, h, q, k⟩ => by
  unfold Zs at q
  split at q
  ·split at q
   ·rename_i ds hl
    obtain ⟨a, xs, rfl, qa, la⟩ := Has.tup_iff.mp h
    exact ⟨a, xs, rfl, ux R.sf qa, by rw [la.length]; exact hl, H₀, Hf₀, ρ, Hf, ds, ρ', R, la, q, k⟩
   ·cases q
  ·cases q
end
def y6 (γ : FG) (B : FS) : List D -> Rho -> Option Out
 | [], ρ => some (.nx ρ)
 | d :: ds, ρ => (γ d ρ).bind fun ρ1 => (B ρ1).bind fun o => match o with
  | .nx ρ2 => y6 γ B ds ρ2
  | .ct ρ2 => y6 γ B ds ρ2
  | .bk ρ2 => some (.nx ρ2)
  | .rt d => some (.rt d)
def Zj (fi : FA) (γ : FG) (B : FS) : FS := fun ρ => (fi ρ).bind fun ds => y6 γ B ds ρ
structure Grows (H Hf H' Hf' : Hp) : Prop where
 h : yp H H'
 f : yp Hf Hf'
 fh : yp Hf' H'
 new : ∀ b o, Hf' b = some o -> Hf b = some o \/ H b = none \/ Tp o
theorem Rep.grows {K : W.Frag} {H₀ Hf₀ : Hp} {σ : St} {ρ : Rho} {H Hf H' Hf' : Hp} (R : Rep K H₀ Hf₀ σ ρ H Hf) (g : Grows H Hf H' Hf') : Rep K H₀ Hf₀ σ ρ H' Hf' := R.grow g.h g.f g.fh g.new
theorem Grows.refl {H Hf : Hp} (h : yp Hf H) : Grows H Hf H Hf := ⟨zv, zv, h, fun _ _ e => .inl e⟩
def Walks (K : W.Frag) (Hf : Hp) (J : It) (ds : List D) : Prop :=
 ∀ (H' Hf' : Hp), yp Hf Hf' -> yp Hf' H' -> ∀ i : Nat, (∀ d, ds[i]? = some d -> J.go i H' /\ ∀ x H2, J.yld i H' x H2 -> ∃ Hf2, Grows H' Hf' H2 Hf2 /\ Has K Hf2 d x) /\ (ds.length <= i -> J.stop i H')
def tI (K : W.Frag) (fi : FA) : TI := fun σ H R' => ∃ H₀ Hf₀ ρ Hf ds, Rep K H₀ Hf₀ σ ρ H Hf /\ fi ρ = some ds /\ ∀ J H' Hf', Rep K H₀ Hf₀ σ ρ H' Hf' -> yp H H' -> yp Hf Hf' -> Walks K Hf' J ds -> R' J H'
def DI (X : Cx) (tg iter : Expr) (fi : FA) : Prop := PI X tg iter (tI X.K fi)
section
variable {X : Cx} {e a b c tg iter : Expr} {es : List Expr} {f g h : FE} {fa ga fi : FA} {ft gt : FT} {pos : Pos} {t t' : TE} {kk : Nat} {st : Stmt} {sts rest body : List Stmt} {F G B : FS} {γ : FG}
theorem Gm {t t' : TI} (h : PI X tg iter t) (i : ∀ σ H R, t' σ H R -> t σ H R) : PI X tg iter t' := fun pins s σ H R I hw => h pins s σ H R I (i _ _ _ hw)
theorem vf (hp : PassesOwn (model X.prog X.w) X.A X.env X.xe) (hc : X.calm = true) (hi : DI X tg iter fi) (hg : DG X tg γ) (hb : DSs X body B)
  (hs : ∀ x, foldedSetIterable iter X.env x = pure x := by intro _; rfl) : DS X (.For tg iter body [] pos) (Zj fi γ B) :=
 jF (Vb hp hc hi hg hb hs) fun D' σ H ⟨H₀, Hf₀, ρ, Hf, o, R, q, k⟩ => by
  obtain ⟨ds, e1, e2⟩ := yz q
  refine ⟨H₀, Hf₀, ρ, Hf, ds, R, e1, fun J H1 Hf1 R1 _ t1 wk => ?_⟩
  have k1 := k.mono t1
  refine ⟨fun i m σ H => m = ds.length - i /\ i <= ds.length /\ ∃ ρ Hf', Rep X.K H₀ Hf₀ σ ρ H Hf' /\ yp Hf1 Hf' /\ y6 γ B (ds.drop i) ρ = some o, ⟨ds.length, by simp, g2e _, ρ, Hf1, R1, zv, by simpa using e2⟩, ?_⟩
  rintro i m σ2 H2 ⟨rfl, hi, ρ2, Hf2, R2, t2, el⟩
  obtain ⟨w1, w2⟩ := wk H2 Hf2 t2 R2.sf i
  by_cases hil : i < ds.length
  ·right
   have hd : ds[i]? = some ds[i] := g0x hil
   obtain ⟨go, yld⟩ := w1 _ hd
   refine ⟨go, ?_⟩
   rw [g1j hil] at el
   unfold y6 at el
   cases eg : γ ds[i] ρ2 with
   | none => rw [eg] at el; cases el
   | some ρ3 =>
    rw [eg] at el
    simp only [g0a] at el
    obtain ⟨o1, eb, eo⟩ := jq el
    refine ⟨fun σ' H' => ∃ ρ' Hf', Rep X.K H₀ Hf₀ σ' ρ' H' Hf' /\ yp Hf1 Hf' /\ y6 γ B (ds.drop (i + 1)) ρ' = some o, ?_, ?_⟩
    ·rintro σ' H' ⟨ρ', Hf', R', t', e'⟩
     exact ⟨ds.length - (i + 1), by omega, rfl, hil, ρ', Hf', R', t', e'⟩
    ·intro x H3 hy
     obtain ⟨Hf3, gr, hx⟩ := yld x H3 hy
     refine ⟨H₀, Hf₀, ρ2, Hf3, ds[i], ρ3, R2.grows gr, hx, eg, fun σ4 H4 Hf4 R4 t4 => ?_⟩
     refine ⟨H₀, Hf₀, ρ3, Hf4, o1, R4, eb, ?_⟩
     have tt : yp Hf1 Hf4 := (t2.trans gr.f).trans t4
     cases o1 with
     | nx ρ5 => exact fun σ5 H5 Hf5 R5 t5 => ⟨ρ5, Hf5, R5, tt.trans t5, eo⟩
     | ct ρ5 => exact fun σ5 H5 Hf5 R5 t5 => ⟨ρ5, Hf5, R5, tt.trans t5, eo⟩
     | bk ρ5 => cases eo; exact fun σ5 H5 Hf5 R5 t5 => k1 _ _ _ R5 (tt.trans t5)
     | rt d => cases eo; exact fun v σ5 ρ5 H5 Hf5 R5 t5 h5 => k1 _ _ _ _ _ R5 (tt.trans t5) h5
  ·left
   have : ds.drop i = [] := List.drop_eq_nil_of_le (by omega)
   rw [this] at el
   cases el
   exact ⟨w2 (by omega), k1 _ _ _ R2 t2⟩
def yk (lo hi : Int) : List D := (g1f (hi - lo).toNat).map fun (k : Nat) => D.int (lo + (k : Int))
noncomputable def vT : List D -> Option (List D)
 | [.int j] => @ite _ (-(2 ^ 62) <= j /\ j < 2 ^ 62) (Classical.propDecidable _) (some (yk 0 j)) none
 | _ => none
noncomputable def jD : List D -> Option (List D)
 | [.int i, .int j] => @ite _ (-(2 ^ 62) <= i /\ i < 2 ^ 62 /\ -(2 ^ 62) <= j /\ j < 2 ^ 62) (Classical.propDecidable _) (some (yk i j)) none
 | _ => none
noncomputable def W6 (fa : FA) : FA := fun ρ => (fa ρ).bind vT
noncomputable def Ce (fa : FA) : FA := fun ρ => (fa ρ).bind jD
theorem j9 {K : W.Frag} {Hf : Hp} {lo : Int} {n : Nat} : Walks K Hf (Itr lo n) ((g1f n).map fun (k : Nat) => D.int (lo + (k : Int))) := fun H2 Hf2 t2 sf2 i => by
 refine ⟨fun d hd => ?_, fun hle => ?_⟩
 ·rw [g0w] at hd
  cases e : (g1f n)[i]? with
  | none => rw [e] at hd; cases hd
  | some j =>
   rw [e] at hd
   cases hd
   obtain ⟨h1, h2⟩ := g0y.mp e
   simp at h1 h2
   subst h2
   refine ⟨h1, fun x H3 hy => ?_⟩
   obtain ⟨rfl, rfl⟩ := hy
   exact ⟨Hf2, Grows.refl sf2, Has.int_iff.mpr rfl⟩
 ·show n <= i
  simpa using hle
theorem wx {p pos : Pos} (hg : Gl X "range") (hm : X.mg "range" = none) (ha : DAR X [a] fa) (hs : starEach [a] X.env = [(false, eval a X.env)] := by rfl) : DI X tg (.Call (.Name "range" p) [a] [] pos) (W6 fa) :=
 Gm (Qh hg hm ha hs) fun σ H R' ⟨H₀, Hf₀, ρ, Hf, ds, R, q, k⟩ => by
  obtain ⟨l, e1, e2⟩ := yz q
  unfold vT at e2
  split at e2
  ·split at e2
   ·cases e2
    rename_i j hj
    refine ⟨H₀, Hf₀, ρ, Hf, _, R, e1, fun vs H1 Hf1 R1 s1 t1 h1 => ?_⟩
    obtain ⟨v, rfl, hv⟩ := h1.one
    refine ⟨j, by rw [hv.int], hj.1, hj.2, k _ _ _ R1 s1 t1 ?_⟩
    have := j9 (K := X.K) (Hf := Hf1) (lo := 0) (n := j.toNat)
    unfold yk
    rw [Int.sub_zero]
    exact this
   ·cases e2
  ·cases e2
theorem XI {p pos : Pos} (hg : Gl X "range") (hm : X.mg "range" = none) (ha : DAR X [a, b] fa) (hs : starEach [a, b] X.env = [(false, eval a X.env), (false, eval b X.env)] := by rfl) (hs2 : starEach [b] X.env = [(false, eval b X.env)] := by rfl) :
  DI X tg (.Call (.Name "range" p) [a, b] [] pos) (Ce fa) :=
 Gm (Qg hg hm ha hs hs2) fun σ H R' ⟨H₀, Hf₀, ρ, Hf, ds, R, q, k⟩ => by
  obtain ⟨l, e1, e2⟩ := yz q
  unfold jD at e2
  split at e2
  ·split at e2
   ·cases e2
    rename_i i j hj
    refine ⟨H₀, Hf₀, ρ, Hf, _, R, e1, fun vs H1 Hf1 R1 s1 t1 h1 => ?_⟩
    obtain ⟨v, v', rfl, hv, hv'⟩ := h1.two
    exact ⟨i, j, by rw [hv.int, hv'.int], hj, k _ _ _ R1 s1 t1 j9⟩
   ·cases e2
  ·cases e2
def qx (c : FT) (B : FS) : Nat -> Rho -> Option Out
 | 0, _ => none
 | n + 1, ρ => (c ρ).bind fun b => if b = true then (B ρ).bind fun o => match o with
   | .nx ρ2 => qx c B n ρ2
   | .ct ρ2 => qx c B n ρ2
   | .bk ρ2 => some (.nx ρ2)
   | .rt d => some (.rt d)
  else some (.nx ρ)
theorem KO (n : Nat) (hp : PassesOwn (model X.prog X.w) X.A X.env X.xe) (hc : DT X c ft) (hb : DSs X body B) : DS X (.While c body [] pos) (qx ft B n) :=
 jF (J7 hp hc hb) fun D' σ H ⟨H₀, Hf₀, ρ, Hf, o, R, q, k⟩ => by
  refine ⟨fun m σ H => ∃ ρ Hf', Rep X.K H₀ Hf₀ σ ρ H Hf' /\ yp Hf Hf' /\ qx ft B m ρ = some o, ⟨n, ρ, Hf, R, zv, q⟩, ?_⟩
  rintro m σ2 H2 ⟨ρ2, Hf2, R2, t2, e2⟩
  cases m with
  | zero => cases e2
  | succ m =>
   unfold qx at e2
   obtain ⟨b, e3, e4⟩ := w5 e2
   refine ⟨H₀, Hf₀, ρ2, Hf2, b, R2, e3, fun H3 Hf3 R3 s3 t3 => ?_⟩
   have tt := t2.trans t3
   cases b with
   | false => cases e4; exact Kz (k _ _ _ R3 tt)
   | true =>
    obtain ⟨o1, e5, e6⟩ := jq e4
    refine Ky ⟨fun σ' H' => ∃ ρ' Hf', Rep X.K H₀ Hf₀ σ' ρ' H' Hf' /\ yp Hf Hf' /\ qx ft B m ρ' = some o, fun σ' H' h => ⟨m, g2m _, h⟩, H₀, Hf₀, ρ2, Hf3, o1, R3, e5, ?_⟩
    cases o1 with
    | nx ρ5 => exact fun σ5 H5 Hf5 R5 t5 => ⟨ρ5, Hf5, R5, tt.trans t5, e6⟩
    | ct ρ5 => exact fun σ5 H5 Hf5 R5 t5 => ⟨ρ5, Hf5, R5, tt.trans t5, e6⟩
    | bk ρ5 => cases e6; exact fun σ5 H5 Hf5 R5 t5 => k _ _ _ R5 (tt.trans t5)
    | rt d => cases e6; exact fun v σ5 ρ5 H5 Hf5 R5 t5 h5 => k _ _ _ _ _ R5 (tt.trans t5) h5
def uO (i : Nat) (f : FE) : FS := fun ρ => (f ρ).bind fun d => match ρ[i]? with
 | some (.ol ds) => if ds.length < sizeLine then some (.nx (ρ.set i (.ol (ds ++ [d])))) else none
 | _ => none
theorem kS {x : Str} {p1 apos cpos pos : Pos} (i : Nat) (he : DE X e f) (hN : X.N[i]? = some x := by rfl) (hv : Vis X.env.scope x := by first | exact Or.inl rfl | exact Or.inr (Or.inl rfl) | exact Or.inr (Or.inr rfl))
  (hd : (x == ("__debug__" : Str)) = false := by decide) (hcd : (x == ("__classdict__" : Str)) = false := by decide)
  (hbase : attributeBase (.Name x p1) "append" X.env (eval (.Name x p1) X.env) = eval (.Name x p1) X.env := by rfl)
  (hfew : ((backTo cpos (starEach [e] X.env)).all (fun x => !x.1) && (backToKw cpos (keywordEach [] X.env)).all (fun x => x.1.isSome)
   && decide (([e] : List Expr).length + ([] : List Keyword).length + (if ([] : List Keyword).isEmpty then 0 else 1) < 30)) = true := by rfl)
  (hline : (apos.endLine == cpos.line) = true := by rfl) (hst : starEach [e] X.env = (false, eval e X.env) :: starEach [] X.env := by rfl) (hplain : (backTo cpos (starEach [] X.env)).any (·.1) = false := by rfl)
  (hs : swapsWith (.Call (.Attribute (.Name x p1) "append" apos) [e] [] cpos) none pos.line X.env = pure false := by rfl) :
  DS X (.Expr (.Call (.Attribute (.Name x p1) "append" apos) [e] [] cpos) pos) (uO i f) :=
 jF (uE (Cu PySem.F.plainAttrs_list PySem.F.slot_list_append PySem.F.type_list_append kB (Ve hN hv hd hcd) (zM he xb hst) hbase hfew hline hst hplain) hs) fun D' σ H ⟨H₀, Hf₀, ρ, Hf, o, R, q, k⟩ => by
  obtain ⟨d, e1, e2⟩ := zP q
  split at e2
  ·split at e2
   ·cases e2
    rename_i ds el hz
    obtain ⟨a, p1, ⟨xs, p2, p3⟩, p4, p5⟩ := R.ow i _ el rfl
    refine ⟨_, p1, .inl ⟨rfl, xs, SqL.of p2⟩, H₀, Hf₀, ρ, Hf, d, R, e1, fun v H1 Hf1 R1 s1 t1 h1 => ?_⟩
    obtain ⟨a', r1, ⟨ys, r2, r3⟩, r4, r5⟩ := R1.ow i _ el rfl
    rw [p1] at r1; cases r1
    refine ⟨a, ys, v, rfl, rfl, r2, by rw [r3.length]; exact hz, ?_⟩
    exact k _ _ _ (R1.updOwn el rfl p1 rfl ⟨_, zz, r3.append (.cons h1 .nil)⟩) t1
   ·cases e2
  ·cases e2
end
def spF (K : W.Frag) (n : Nat) (g : List D -> Option D) : Sp := fun vs H Q _ => ∃ Hf ds d, yp Hf H /\ z7 K Hf ds vs /\ ds.length = n /\ g ds = some d /\ ∀ v H' Hf', Grows H Hf H' Hf' -> Has K Hf' d v -> Q v H'
def jz (n : Nat) (ds : List D) : Rho := ds.map Slot.fr ++ g0i (n - ds.length) Slot.no
def JE (o : Option Out) : Option D := match o with
 | some (.rt d) => some d
 | some (.nx _) => some .non
 | _ => none
def uv (m : Nat) (F : FS) : List D -> Option D := fun ds => JE (F (jz m ds))
theorem U9 {K : W.Frag} {N : List Str} {H Hf : Hp} {ds : List D} {vs : List V} (sf : yp Hf H) (h : z7 K Hf ds vs) : Rep K H Hf (L2.start N vs) (jz N.length ds) H Hf where
 s0 := zv
 sf := sf
 nf := fun b o e => .inl e
 f0 := zv
 len := by unfold jz L2.start; simp [h.length]
 fr := fun i d e => by
  unfold jz at e
  unfold L2.start
  by_cases hi : i < ds.length
  ·rw [g1i (by simpa using hi)] at e
   rw [g0w] at e
   cases e1 : ds[i]? with
   | none => rw [e1] at e; cases e
   | some d' =>
    rw [e1] at e; cases e
    obtain ⟨v, e2, e3⟩ := h.get e1
    refine ⟨v, ?_, e3⟩
    have hl := h.length
    rw [g1i (by simp; omega), g0w, e2]
    rfl
  ·rw [g0z (by simpa using hi), g1u] at e
   split at e <;> cases e
 ow := fun i sl e o => by
  unfold jz at e
  by_cases hi : i < ds.length
  ·rw [g1i (by simpa using hi), g0w] at e
   cases e1 : ds[i]? with
   | none => rw [e1] at e; cases e
   | some d' => rw [e1] at e; cases e; cases o
  ·rw [g0z (by simpa using hi), g1u] at e
   split at e
   ·cases e; cases o
   ·cases e
 inj := fun i j sl sl' a e o e' o' _ _ => by
  unfold jz at e
  by_cases hi : i < ds.length
  ·rw [g1i (by simpa using hi), g0w] at e
   cases e1 : ds[i]? with
   | none => rw [e1] at e; cases e
   | some d' => rw [e1] at e; cases e; cases o
  ·rw [g0z (by simpa using hi), g1u] at e
   split at e
   ·cases e; cases o
   ·cases e
section
variable {P : Program} {w : World} {K : W.Frag} {mg : Str -> Option Value} {base : Heap}
theorem yu {x qual : Str} {st : Stmt} {f : Addr} {fd : FuncData} {N ps : List Str} {k m n : Nat} {F : FS} (hm : N.length = m) (hn : ps.length = n) (Fn : Fun K x qual st f fd) (S : FnScope N ps (ze st))
  (body : ∀ (cdv : Value) (A : Around) (outer : List Env) (s : Shared) (H : Hp) (E : XK), Room k (A.deeper (envOfC qual (ze st) s.heap.objs.size f cdv)) →
   DSs (K1 CX0 P w K mg base N qual (ze st) f cdv A outer s H E).nox (zE st) F) :
  FnOk P w K mg base CX0 (k + 1) f fd ps (spF K n (uv m F)) := by
 subst hm hn
 refine Fn.ok S (fun vs H Q E h => ?_) (fun cdv A outer s H vs Q E hr h => ?_)
 ·obtain ⟨Hf, ds, d, _, h1, h2, _⟩ := h
  rw [h1.length]; exact h2
 ·obtain ⟨Hf, ds, d, sf, h1, h2, h3, q⟩ := h
  refine ⟨_, body cdv A outer s H E hr, ?_⟩
  unfold uv JE at h3
  have R := U9 (N := N) sf h1
  have fin : ∀ (v : V) (σ' : St) (ρ' : Rho) (H' Hf' : Hp), Rep K H Hf σ' ρ' H' Hf' -> Has K Hf' d v -> Q v H' := fun v σ' ρ' H' Hf' R' hv => q v H' Hf' ⟨R'.s0, R'.f0, R'.sf, R'.nf⟩ hv
  split at h3
  ·cases h3
   rename_i d e
   exact ⟨H, Hf, _, Hf, _, R, e, fun v σ' ρ' H' Hf' R' _ hv => fin v σ' ρ' H' Hf' R' hv⟩
  ·cases h3
   rename_i ρ' e
   exact ⟨H, Hf, _, Hf, _, R, e, fun σ' H' Hf' R' _ => fin _ σ' ρ' H' Hf' R' (Has.non_iff.mpr rfl)⟩
  ·cases h3
end
section
variable {X : Cx} {e : Expr} {es : List Expr} {fa : FA} {pos : Pos}
theorem Dc {CX : CXT} {k : Nat} {f : Addr} {fd : FuncData} {ps : List Str} {g : List D -> Option D} {E : XK} {x : Str} {p : Pos} {n : Nat} (Fn : FnOk X.prog X.w X.K X.mg X.base CX k f fd ps (spF X.K n g)) (hr : Room k X.A) (hg : Gl X x) (hm : X.mg x = some (.ref f))
  (hk : W.keepIn X.K (.ref f) = true) (hb : uo X.K fd ps []) (hx : jO CX X E) (ha : DA X (e :: es) fa) (hn : ∀ ρ ds, fa ρ = some ds -> ds.length = n)
  (hdb : (x == ("__debug__" : Str)) = false := by decide) (he : starEach (e :: es) X.env = (false, eval e X.env) :: starEach es X.env := by rfl) (hpl : (backTo pos (starEach es X.env)).any (·.1) = false := by rfl) :
  DE X (.Call (.Name x p) (e :: es) [] pos) (z5 g fa) :=
 yV (kr Fn hr hg hm hk hb .nil hx ha hdb he hpl) fun σ H Q ⟨H₀, Hf₀, ρ, Hf, d, R, q, k⟩ => by
  obtain ⟨ds, e1, e2⟩ := yz q
  refine ⟨H₀, Hf₀, ρ, Hf, ds, R, e1, fun vs H1 Hf1 R1 s1 t1 h1 => ?_⟩
  show spF X.K n g (vs ++ []) H1 Q E
  rw [g0t]
  exact ⟨Hf1, ds, d, R1.sf, h1, hn ρ ds e1, e2, fun v H2 Hf2 gr hv => k _ _ _ (R1.grows gr) (s1.trans gr.h) (t1.trans gr.f) hv⟩
end
theorem yb : ∀ (ρ : Rho) (ds : List D), zB ρ = some ds -> ds.length = 0 := fun ρ ds h => by cases h; rfl
theorem zq {f : FE} {g : FA} {n : Nat} (h : ∀ (ρ : Rho) (ds : List D), g ρ = some ds -> ds.length = n) : ∀ (ρ : Rho) (ds : List D), zb f g ρ = some ds -> ds.length = n + 1 := fun ρ ds q => by
 obtain ⟨x, xs, _, e2, rfl⟩ := jl q
 simp [h ρ xs e2]
theorem law_sp {K : W.Frag} {g : List D -> Option D} {H : Hp} {a : Addr} {ns : List Int} (hq : SqL K H a (ns.map V.int)) (hg : g [.lst (ns.map D.int)] = some (.bl true)) : spF K 1 g [.ref a] H (fun v _ => v = .bl true) fun _ _ _ => False :=
 ⟨H, [.lst (ns.map D.int)], .bl true, zv, .cons (Has.lst_iff.mpr ⟨a, _, rfl, hq, z7.ints ns⟩) .nil, rfl, hg, fun v H' Hf' _ hv => Has.bl_iff.mp hv⟩
def tyN : D -> String
 | .non => "NoneType"
 | .bl _ => "bool"
 | .int _ => "int"
 | .str _ => "str"
 | .tup _ => "tuple"
 | .lst _ => "list"
def Wc (t T : String) : Bool := t == T || (t == "bool" && T == "int")
def Gz (T : String) (d : D) : Option D := some (.bl (Wc (tyN d) T))
def BG (T : String) : Prop := ∀ (K : W.Frag) (d : D), PySem.W.kitOne K (.type (tyN d)) (.type T) = some (Wc (tyN d) T)
theorem BJ : BG "int" := fun K d => by cases d <;> kernel_rfl
theorem GT : BG "bool" := fun K d => by cases d <;> kernel_rfl
theorem JK : BG "tuple" := fun K d => by cases d <;> kernel_rfl
theorem GR : BG "list" := fun K d => by cases d <;> kernel_rfl
section
variable {X : Cx} {pins : List (Addr × Obj)} {σ : St} {H : Hp} {s : Shared} {A : Around} {E : Value -> Shared -> Prop} {Q : Value -> Shared -> Prop} {c : Value} {b : Bool}
theorem KA {d : D} {v : V} {u : Value} (I : Inv X pins σ H s) (hd : Has X.K H d v) (rx : xK v u) (e : PySem.W.kitOne X.K (.type (tyN d)) c = some b) (h : ∀ tk, Q (.bool b) { s with toks := tk }) :
  wpAny (model X.prog X.w) A (call (.builtin "isinstance") [u, c]) Q E s := by
 cases d with
 | non => rw [Has.non_iff] at hd; subst hd; cases rx; exact PySem.W.kia_one PySem.W.kitx_none I.kIn True.intro e (fun z => nomatch z) h
 | bl y => rw [Has.bl_iff] at hd; subst hd; cases rx; exact PySem.W.kia_one PySem.W.kitx_bool I.kIn True.intro e (fun z => nomatch z) h
 | int y => rw [Has.int_iff] at hd; subst hd; obtain ⟨t, rfl⟩ := rx; exact PySem.W.kia_one PySem.W.kitx_int I.kIn True.intro e (fun z => nomatch z) h
 | str y => rw [Has.str_iff] at hd; subst hd; obtain ⟨t, rfl⟩ := rx; exact PySem.W.kia_one PySem.W.kitx_str I.kIn True.intro e (fun z => nomatch z) h
 | tup ds =>
  obtain ⟨a, xs, rfl, q, _⟩ := Has.tup_iff.mp hd
  cases rx
  obtain ⟨its, _, ⟨o, h1, h2, _⟩, _⟩ := I.tuple q
  exact PySem.W.kia_one PySem.W.kitx_tuple I.kIn ⟨o, h1, h2⟩ e (fun z => nomatch z) h
 | lst ds =>
  obtain ⟨a, xs, rfl, q, _⟩ := Has.lst_iff.mp hd
  cases rx
  obtain ⟨its, _, ⟨o, n, h1, h2, _⟩, _⟩ := I.list q
  exact PySem.W.kia_one PySem.W.kitx_list I.kIn ⟨o, h1, h2⟩ e (fun z => nomatch z) h
end
section
variable {X : Cx} {e a b c : Expr} {es : List Expr} {f g h : FE} {fa ga : FA} {pos : Pos}
theorem Jt {T : String} (hT : BG T) : uC X (.builtin "isinstance") (fun xs H Q => ∃ v d, xs = [v, .ty T] /\ Has X.K H d v /\ Q (.bl (Wc (tyN d) T)) H) := by
 intro pins s σ H xs us Q I r h
 obtain ⟨v, d, rfl, hd, q⟩ := h
 obtain ⟨u, w', rfl, rx, ry⟩ := GQ r
 cases ry
 exact KA I hd rx (hT X.K d) fun tk => ⟨.bl _, H, I.tok _, rfl, q⟩
theorem Vx {T : String} {x y : Str} {p p2 : Pos} (hT : BG T) (ha : DR X a f) (hg : Gl X x) (hm : X.mg x = none) (hg2 : Gl X y) (hm2 : X.mg y = none) (hv : bootBuiltins x = some (.builtin "isinstance") := by rfl) (hv2 : bootBuiltins y = some (.type T) := by rfl)
  (hn : x ≠ "__name__" := by decide) (hdb : (x == ("__debug__" : Str)) = false := by decide) (hn2 : y ≠ "__name__" := by decide) (hdb2 : (y == ("__debug__" : Str)) = false := by decide)
  (he : starEach [a, .Name y p2] X.env = (false, eval a X.env) :: starEach [.Name y p2] X.env := by rfl) (he2 : starEach [.Name y p2] X.env = (false, eval (.Name y p2) X.env) :: starEach [] X.env := by rfl) (hpl : (backTo pos (starEach [.Name y p2] X.env)).any (·.1) = false := by rfl) :
  DE X (.Call (.Name x p) [a, .Name y p2] [] pos) (uB (Gz T) f) :=
 yV (Yf (Jt hT) hg hm hv (zM ha (zM (Hj (v := .ty T) hg2 hm2 hv2 rfl hn2 hdb2) xb he2) he) hn hdb he hpl) fun σ H Q ⟨H₀, Hf₀, ρ, Hf, d, R, q, k⟩ => by
  obtain ⟨x, e1, e2⟩ := zP q
  cases e2
  exact ⟨H₀, Hf₀, ρ, Hf, x, R, e1, fun v H1 Hf1 R1 s1 t1 h1 => ⟨v, x, rfl, h1.full R1, k _ _ _ R1 s1 t1 (Has.bl_iff.mpr rfl)⟩⟩
theorem Jp {x z : Str} {pos : Pos} (hg : Gl X x) (hm : ∃ t, X.mg x = some (.str z t)) (hd : (x == ("__debug__" : Str)) = false := by decide) : DE X (.Name x pos) (cF (.str z)) := by
 obtain ⟨t, hm⟩ := hm
 exact GL hg hm rfl ⟨t, rfl⟩ hd
theorem GM {x : Str} {z : Int} {pos : Pos} (hg : Gl X x) (hm : ∃ t, X.mg x = some (.int z t)) (hd : (x == ("__debug__" : Str)) = false := by decide) : DE X (.Name x pos) (cF (.int z)) := by
 obtain ⟨t, hm⟩ := hm
 exact GL hg hm rfl ⟨t, rfl⟩ hd
end
structure HasFn (P : Program) (w : World) (K : W.Frag) (mg : Str -> Option Value) (base : Heap) (k : Nat) (x : Str) (n : Nat) (g : List D -> Option D) : Prop where
 ex : ∃ (f : Addr) (fd : FuncData) (ps : List Str), FnOk P w K mg base CX0 k f fd ps (spF K n g) /\ mg x = some (.ref f) /\ W.keepIn K (.ref f) = true /\ uo K fd ps []
theorem zr {X : Cx} {e : Expr} {es : List Expr} {fa : FA} {pos : Pos} {k : Nat} {g : List D -> Option D} {x : Str} {p : Pos} {n : Nat} (Fn : HasFn X.prog X.w X.K X.mg X.base k x n g) (hr : Room k X.A) (hg : Gl X x) (ha : DA X (e :: es) fa) (hn : ∀ ρ ds, fa ρ = some ds -> ds.length = n)
  (hdb : (x == ("__debug__" : Str)) = false := by decide) (he : starEach (e :: es) X.env = (false, eval e X.env) :: starEach es X.env := by rfl) (hpl : (backTo pos (starEach es X.env)).any (·.1) = false := by rfl) :
  DE X (.Call (.Name x p) (e :: es) [] pos) (z5 g fa) := by
 obtain ⟨f, fd, ps, h1, h2, h3, h4⟩ := Fn.ex
 exact Dc h1 hr hg h2 h3 h4 jS ha hn hdb he hpl
theorem QK {n k : Nat} (h : n < 2 ^ k) (hk : k <= 8000) : n < big := g1d h (g2h (by decide) hk)
theorem kz {i j : Int} (h1 : i.natAbs < big) (h2 : j.natAbs < big) : Uz i j := .inr (.inr ⟨h1, h2⟩)
theorem uH {i j : Int} (h1 : -(2 ^ 64) < i) (h2 : i < 2 ^ 64) : Uz i j := .inl (by omega)
theorem QE {i j : Int} (h1 : -(2 ^ 64) < j) (h2 : j < 2 ^ 64) : Uz i j := .inr (.inl (by omega))
theorem xW {i j : Int} (h : Uz i j) : uz (.int i) (.int j) = some (.int (i * j)) := by
 show (if Uz i j then _ else _) = _
 rw [if_pos h]
theorem yA {i j : Int} (h : 0 < j) : vZ (.int i) (.int j) = some (.int (i % j)) := by
 show (if 0 < j then _ else _) = _
 rw [if_pos h]
theorem xR {i j : Int} (h : 0 < j) (h2 : j < 2 ^ 64) : wt (.int i) (.int j) = some (.int (i / j)) := by
 show (if BH j then _ else _) = _
 rw [if_pos ⟨h, h2⟩]
theorem Hd {i j : Int} (h : Bu i j) : Bz (.int i) (.int j) = some (.int (i ^ j.toNat)) := by
 show (if Bu i j then _ else _) = _
 rw [if_pos h]
theorem Bb {i j : Int} : eqF (.int i) (.int j) = some (.bl (decide (i = j))) := by unfold eqF; simp [dep, eqD]; rfl
theorem HE {i j : Int} : neF (.int i) (.int j) = some (.bl (!decide (i = j))) := by unfold neF; simp [dep, eqD]; rfl
theorem ZC {lo hi : Int} {i : Nat} {d : D} (h : (yk lo hi)[i]? = some d) : d = .int (lo + i) /\ (i : Int) < hi - lo := by
 unfold yk at h
 rw [g0w] at h
 cases e : (g1f (hi - lo).toNat)[i]? with
 | none => rw [e] at h; cases h
 | some j =>
  rw [e] at h
  cases h
  obtain ⟨h1, h2⟩ := g0y.mp e
  simp at h1 h2
  subst h2
  exact ⟨rfl, by omega⟩
theorem qB (lo hi : Int) : (yk lo hi).length = (hi - lo).toNat := by simp [yk]
def uK (env : Env) : List (Str × NameKind) -> List (Str × Addr) -> Option (List (Str × Addr))
 | [], cs => some cs
 | (n, k) :: r, cs => if k == .free then match env.cells.lookup n with
   | some c => uK env r ((n, c) :: cs)
   | none => none
  else uK env r cs
def uL (env : Env) : (Str × NameKind) -> List (Str × Addr) -> Sem (ForInStep (List (Str × Addr))) := fun x c => match x with
 | (name, kind) => if (kind == NameKind.free) = true then do let a ← cellOf env name; pure (ForInStep.yield ((name, a) :: c)) else pure (ForInStep.yield c)
theorem Zm {env : Env} {n : Str} {k : NameKind} {c : Addr} {cs : List (Str × Addr)} (hk : (k == NameKind.free) = true) (hc : env.cells.lookup n = some c) : uL env (n, k) cs = pure (.yield ((n, c) :: cs)) := by
 unfold uL cellOf
 simp only [hk, if_true, hc]
 rfl
theorem XO {env : Env} {n : Str} {k : NameKind} {cs : List (Str × Addr)} (hk : (k == NameKind.free) = false) : uL env (n, k) cs = pure (.yield cs) := by
 unfold uL
 simp only [hk, g0k, if_false]
theorem jo {env : Env} : ∀ (l : List (Str × NameKind)) (cs cl : List (Str × Addr)), uK env l cs = some cl -> (forIn l cs (uL env) : Sem (List (Str × Addr))) = pure cl
 | [], cs, cl, h => by cases h; rfl
 | (n, k) :: r, cs, cl, h => by
  rw [g2n]
  unfold uK at h
  cases hk : k == NameKind.free with
  | true =>
   rw [hk] at h
   cases hc : env.cells.lookup n with
   | none => rw [hc] at h; cases h
   | some c =>
    rw [hc] at h
    rw [Zm hk hc]
    exact jo r _ cl h
  | false =>
   rw [hk] at h
   rw [XO hk]
   exact jo r _ cl h
theorem YC {scope : Scope} {env : Env} {cl : List (Str × Addr)} (h : uK env scope.names [] = some cl) : closureFor scope env = pure cl := by
 have e := jo (env := env) scope.names [] cl h
 unfold closureFor
 simp only [bind_pure]
 exact e
theorem jm {env : Env} : ∀ (l : List (Str × NameKind)) (cs : List (Str × Addr)), (∀ n, (n, NameKind.free) ∈ l -> ∃ c, env.cells.lookup n = some c) -> (∀ x c, cs.lookup x = some c -> env.cells.lookup x = some c) →
    ∃ cl, uK env l cs = some cl /\ (∀ x c, cl.lookup x = some c -> env.cells.lookup x = some c) /\ (∀ x c, cs.lookup x = some c -> ∃ c', cl.lookup x = some c') /\ ∀ n, (n, NameKind.free) ∈ l -> ∃ c, cl.lookup n = some c
  | [], cs, _, h2 => ⟨cs, rfl, h2, fun x c e => ⟨c, e⟩, fun n hn => by cases hn⟩
  | (n, k) :: r, cs, h1, h2 => by
    cases hk : k == NameKind.free with
    | true =>
      have hkf : k = .free := by simpa using hk
      subst hkf
      obtain ⟨c, hc⟩ := h1 n g0s
      obtain ⟨cl, e1, e2, e3, e4⟩ := jm r ((n, c) :: cs) (fun m hm => h1 m (g0n _ hm)) (fun x d e => by
        rw [g1t] at e
        cases hx : x == n with
        | true => rw [hx] at e; cases e; have : x = n := by simpa using hx
                  rw [this]; exact hc
        | false => rw [hx] at e; exact h2 x d e)
      refine ⟨cl, by unfold uK; rw [hk, hc]; exact e1, e2, fun x d e => ?_, fun m hm => ?_⟩
      · cases hx : x == n with
        | true => exact e3 x c (by rw [g1t, hx])
        | false => exact e3 x d (by rw [g1t, hx]; exact e)
      · rcases g0m.mp hm with q | q
        · cases q; exact e3 n c (by rw [g1t]; simp)
        · exact e4 m q
    | false =>
      obtain ⟨cl, e1, e2, e3, e4⟩ := jm r cs (fun m hm => h1 m (g0n _ hm)) h2
      refine ⟨cl, by unfold uK; rw [hk]; exact e1, e2, e3, fun m hm => ?_⟩
      rcases g0m.mp hm with q | q
      · cases q; simp at hk
      · exact e4 m q
structure CompScope (osc : Scope) (scope : Scope) (own frees : List Str) : Prop where
 kind : scope.kind = .function
 nocell : ∀ y ∈ scope.names, y.2 ≠ .cell
 loc : ∀ y ∈ scope.names, y.2 = .local -> scope.names.lookup y.1 = some .local
 free : ∀ y ∈ scope.names, y.2 = .free -> osc.names.lookup y.1 = some .cell \/ osc.names.lookup y.1 = some .free
 capt : ∀ x ∈ frees, (osc.names.lookup x = some .cell \/ osc.names.lookup x = some .free) /\ scope.names.lookup x = some .free
theorem ZH {α : Type} : ∀ {l : List (Str × α)} {x : Str} {k : α}, l.lookup x = some k -> (x, k) ∈ l
  | [], _, _, h => by simp at h
  | (n, k) :: r, x, k', h => by
    rw [g1t] at h
    cases hx : x == n with
    | true => rw [hx] at h; cases h; have : x = n := by simpa using hx
              subst this; exact g0s
    | false => rw [hx] at h; exact g0n _ (ZH h)
theorem Zz {env : Env} {x : Str} : ∀ {l : List (Str × NameKind)}, (∀ y ∈ l, y.2 ≠ .cell) →
    ((l.map fun (n, k) => if (k == NameKind.free && env.scope.kind == .function && env.kindOf n == some .cell) then (n, NameKind.cell) else (n, k)).lookup x = some .cell ∨
     (l.map fun (n, k) => if (k == NameKind.free && env.scope.kind == .function && env.kindOf n == some .cell) then (n, NameKind.cell) else (n, k)).lookup x = some .free) -> (x, NameKind.free) ∈ l
  | [], _, h => by simp at h
  | (n, k) :: r, hc, h => by
    have ih := @Zz env x r (fun y hy => hc y (g0n _ hy))
    have hk : k ≠ .cell := hc (n, k) g0s
    rw [g0j] at h
    by_cases hq : (k == NameKind.free && env.scope.kind == .function && env.kindOf n == some .cell) = true
    · simp only [hq, if_true, g1t] at h
      cases hx : x == n with
      | true =>
        have e1 : x = n := by simpa using hx
        have e2 : k = .free := by simp at hq; exact hq.1.1
        subst e1 e2; exact g0s
      | false => rw [hx] at h; exact g0n _ (ih h)
    · simp only [hq, g0k, if_false, g1t] at h
      cases hx : x == n with
      | true =>
        rw [hx] at h
        have e1 : x = n := by simpa using hx
        subst e1
        rcases h with h | h
        · cases h; exact absurd rfl hk
        · cases h; exact g0s
      | false => rw [hx] at h; exact g0n _ (ih h)
theorem jC {env : Env} {x : Str} : ∀ {l : List (Str × NameKind)}, l.lookup x = some .free →
    ((l.map fun (n, k) => if (k == NameKind.free && env.scope.kind == .function && env.kindOf n == some .cell) then (n, NameKind.cell) else (n, k)).lookup x = some .cell ∨
     (l.map fun (n, k) => if (k == NameKind.free && env.scope.kind == .function && env.kindOf n == some .cell) then (n, NameKind.cell) else (n, k)).lookup x = some .free)
  | [], h => by simp at h
  | (n, k) :: r, h => by
    have ih := @jC env x r
    rw [g0j]
    rw [g1t] at h
    by_cases hq : (k == NameKind.free && env.scope.kind == .function && env.kindOf n == some .cell) = true
    · simp only [hq, if_true, g1t]
      cases hx : x == n with
      | true => exact .inl rfl
      | false => rw [hx] at h; exact ih h
    · simp only [hq, g0k, if_false, g1t]
      cases hx : x == n with
      | true => rw [hx] at h; exact .inr h
      | false => rw [hx] at h; exact ih h
theorem XN {prog : Program} {w : World} {A : Around} {R : Result -> Shared -> Prop} {s : Shared} {elt target iter : Expr} {ifs : List Expr} {scope : Scope} {pos : Pos} {it acc : Value} {env : Env} (I : Nat -> Shared -> Prop)
  (turn : ∀ n s, I n s -> wpAny (model prog w) A (pyNext it) (fun r s₁ => match r with
   | none => R (.ok .next) s₁
   | some v => wpAny (model prog w) A (letOwnedTupleGo target it v) (fun _ s₁' => wpAny (model prog w) A (assign target env v) (fun _ s₂ =>
     wpAny (model prog w) A (forIn ifs true fun c r => if r = true then do let ok ← isTrue c env (eval c env); pure (ForInStep.yield ok) else pure (ForInStep.yield r)) (fun ok s₃ =>
      if ok = true then wpAny (model prog w) A (eval elt env) (fun x s₄ =>
       wpAny (model prog w) A (call (.builtin "list.append") [acc, x]) (fun _ s₅ => ∃ m, m < n /\ I m s₅) (fun _ _ => False) s₄) (fun _ _ => False) s₃
      else ∃ m, m < n /\ I m s₃) (fun _ _ => False) s₂) (fun _ _ => False) s₁') (fun _ _ => False) s₁) (fun _ _ => False) s)
  (n : Nat) (h : I n s) :
  codeAny (model prog w) A (.compLoop (.ListComp elt [⟨target, iter, ifs, 0⟩] scope pos) 0 it acc env) R s := by
 refine codeAny_loop rfl I (fun n s hI => ?_) n h
 show wpAny _ A ((compTurn (.ListComp elt [⟨target, iter, ifs, 0⟩] scope pos) 0 it acc env).onRaise (fun x => do noteFrame x env; theTreesLotGoes x)) _ _ s
 refine wpAny_noted ?_
 rw [compTurn_list]
 refine wpAny_bind (wpAny_standAt (wpAny_bind (wpAny_mono (turn n s hI) (fun r s₁ h₁ => ?_) fun _ _ h' => h'.elim)))
 cases r with
 | none => exact wpAny_pure h₁
 | some v =>
  refine wpAny_bind (wpAny_mono h₁ (fun _ s₁' h₁' => ?_) fun _ _ h' => h'.elim)
  refine wpAny_bind (wpAny_mono h₁' (fun _ s₂ h₂ => wpAny_bind (wpAny_mono h₂ (fun ok s₃ h₃ => ?_) fun _ _ h' => h'.elim)) fun _ _ h' => h'.elim)
  cases ok with
  | false => exact wpAny_pure ⟨rfl, h₃⟩
  | true =>
   exact wpAny_bind (wpAny_bind (wpAny_mono h₃ (fun x s₄ h₄ => wpAny_bind (wpAny_mono h₄ (fun _ s₅ h₅ => wpAny_pure (wpAny_pure ⟨rfl, h₅⟩)) fun _ _ h' => h'.elim)) fun _ _ h' => h'.elim))
def cxC (X : Cx) (scope : Scope) (cl : List (Str × Addr)) (C : Addr) (N : List Str) (s : Shared) (H : Hp) (fp : List Addr) : Cx :=
 { X with N := N, s₀ := s, H₀ := H, env := compEnvC scope cl C X.env, outer := X.stack, stack := X.stack, ex := fp, fn := fun _ => false, pn := [], xe := fun _ _ => False }
def Dg (ρ : Rho) (j : Nat) : Slot := match ρ[j]? with
 | some (.fr d) => .fr d
 | _ => .no
def xh (γ : FG) (ft : FT) (f : FE) : List D -> Rho -> Option (List D)
 | [], _ => some []
 | d :: ds, ρ => (γ d ρ).bind fun ρ1 => (ft ρ1).bind fun b => if b = true then (f ρ1).bind fun y => (xh γ ft f ds ρ1).bind fun ys => some (y :: ys) else xh γ ft f ds ρ1
def uh (n : Nat) (caps : List Nat) (ρ : Rho) : Rho := g0i n .no ++ caps.map (Dg ρ)
def u4 (n : Nat) (caps : List Nat) (fi : FA) (γ : FG) (ft : FT) (f : FE) : FA := fun ρ => (fi ρ).bind fun ds => if ds.length <= sizeLine then xh γ ft f ds (uh n caps ρ) else none
def DQ (X : Cx) (ifs : List Expr) (ft : FT) : Prop :=
 ∀ (pins : List (Addr × Obj)) (s : Shared) (σ : St) (H : Hp) (Q : Bool -> Hp -> Prop), Inv X pins σ H s -> tT X.K ft σ H Q →
  wpAny (model X.prog X.w) X.A (forIn ifs true fun c r => if r = true then do let ok ← isTrue c X.env (eval c X.env); pure (ForInStep.yield ok) else pure (ForInStep.yield r)) (TP X pins σ Q) X.xe s
def ttF : FT := fun _ => some true
theorem jL {X : Cx} : DQ X [] ttF := fun pins s σ H Q I h => by
 obtain ⟨H₀, Hf₀, ρ, Hf, b, R, q, k⟩ := h
 cases q
 exact wpAny_tests_nil ⟨H, I, k _ _ R zv zv⟩
def YB (n : Nat) (caps : List Nat) (σ : St) : St := g0i n none ++ caps.map (fun j => σ.getD j none)
section
variable {X : Cx} {scope : Scope} {own frees : List Str} {caps : List Nat} {cl : List (Str × Addr)}
theorem Dd {pins : List (Addr × Obj)} {s : Shared} {σ : St} {H : Hp} {fp : List Addr} {C : Addr} {N : List Str} (I : Inv X pins σ H s) (S : CompScope X.env.scope scope own frees) (hfp : ∀ b ∈ fp, vH X pins H b) (hfo : ∀ b ∈ fp, b < s.heap.objs.size)
  (c1 : ∀ x c, cl.lookup x = some c -> X.env.cells.lookup x = some c) (c2 : ∀ n, (n, NameKind.free) ∈ scope.names -> ∃ c, cl.lookup n = some c) (hC : s.heap.objs.size <= C) : (cxC X scope cl C N s H fp).Ok where
 mod := I.ok.mod
 kind := S.kind
 glob := I.ok.glob
 blt := I.ok.blt
 above := hC
 inj := fun x y c e1 e2 => I.ok.inj x y c (c1 x c e1) (c1 y c e2)
 has := fun x hx => c2 x (Zz S.nocell hx)
 cab := fun x c h => by cases h
 hd := I.ok.hd
 frames := I.ok.frames
 stk := .inl rfl
 exf := fun b hb => ⟨g1b (g1d (hfo b hb) hC), fun x c e => (hfp b hb).2.2.2.2.1 x c (c1 x c e)⟩
 bs := I.bs
 bsz := g1y I.ok.bsz I.sz
 noex := fun b o e hb => by
  rcases (hfp b hb).2.2.2.1 with z | z
  ·exact I.ok.noex b o e z
  ·exact absurd (g1d (Heap.lt_size e) (g1y I.ok.bsz z)) (g2x _)
 exfs := fun b hb z => by
  rcases g0m.mp (I.stkSub b z) with q | q
  ·exact (hfp b hb).2.1 q
  ·exact (hfp b hb).2.2.1 q
 funs := I.stack
 frf := I.stkFree
theorem HK {caps : List Nat} {N : List Str} {frees : List Str} (h : caps.map (fun j => N[j]?) = frees.map some) {k : Nat} {x : Str} (e : frees[k]? = some x) : ∃ j, caps[k]? = some j /\ N[j]? = some x := by
 have := congrArg (fun l => l[k]?) h
 simp only [g0w, e, g1w] at this
 cases hc : caps[k]? with
 | none => rw [hc] at this; cases this
 | some j => rw [hc] at this; exact ⟨j, rfl, by simpa using this⟩
theorem Bl {pins : List (Addr × Obj)} {s : Shared} {σ : St} {H : Hp} {fp : List Addr} {h' : Heap} {t' : Nat} (I : Inv X pins σ H s) (S : CompScope X.env.scope scope own frees) (hcap : caps.map (fun j => X.N[j]?) = frees.map some) (hfp : ∀ b ∈ fp, vH X pins H b) (hfo : ∀ b ∈ fp, b < s.heap.objs.size)
  (c1 : ∀ x c, cl.lookup x = some c -> X.env.cells.lookup x = some c) (c2 : ∀ n, (n, NameKind.free) ∈ scope.names -> ∃ c, cl.lookup n = some c) {C : Addr} (hC : C = s.heap.objs.size + 1) (hns : h'.Ns C fun _ => none)
  (hsb : Heap.SameBut C ((s.heap.push { cls := .type "list", dict := none, data := .seq #[] }).push { cls := .type "dict", data := .dict #[] }) h') :
  Inv (cxC X scope cl C (own ++ frees) s H fp) [] (YB own.length caps σ) (upd H s.heap.objs.size (.lst [])) { s with heap := h', toks := t' } := by
 have hk : ∀ b u, s.heap.get? b = some u -> h'.get? b = some u := fun b u e => (hsb.2 b (by rw [hC]; exact g1b (Nat.lt_succ_of_lt (Heap.lt_size e)))).trans (Heap.get?_push_of_some _ (Heap.get?_push_of_some _ e))
 have hD : h'.get? s.heap.objs.size = some { cls := .type "list", dict := none, data := .seq #[] } := (hsb.2 _ (by rw [hC]; exact g1b (g2m _))).trans (Heap.get?_push_of_some _ (Heap.get?_push_size _ rfl))
 have hfD : H s.heap.objs.size = none := I.hok.fresh (g0o _)
 have hfC : H C = none := I.hok.fresh (by rw [hC]; exact Nat.le_succ _)
 have hCD : C ≠ s.heap.objs.size := by rw [hC]; exact Nat.succ_ne_self _
 have new : u5 X.prog X.w (upd H s.heap.objs.size (.lst [])) h' s.heap.objs.size (.lst []) := ⟨by decide, [], 0, .nil, hD⟩
 refine ⟨Dd I S hfp hfo c1 c2 (by rw [hC]; exact Nat.le_succ _), rfl, I.bare, Un.laid hk (g0o _) hfD, ⟨fun _ => none, hns, ?_⟩, ?_, ?_, ?_, ?_, I.hok.laid hk (g0o _) new, ?_⟩
 ·intro i x v e1 e2 hv
  have e1 : (own ++ frees)[i]? = some x := e1
  unfold YB at e2
  by_cases h1 : i < own.length
  ·rw [g1i (by simpa using h1), g1u, if_pos h1] at e2
   cases e2
  ·rw [g0z (by simpa using h1)] at e2
   rw [g0z (by omega)] at e1
   have hcl : caps.length = frees.length := by have := congrArg g2u hcap; simpa using this
   simp only [List.length_replicate] at e2
   ·rw [g0w] at e2
    obtain ⟨j, q1, q2⟩ := HK hcap e1
    rw [q1] at e2
    have e2 : σ.getD j none = some v := by simpa using e2
    have e2' : σ[j]? = some (some v) := by
     rw [g0l] at e2
     cases z : σ[j]? with
     | none => rw [z] at e2; cases e2
     | some w => rw [z] at e2; simp at e2; rw [e2]
    obtain ⟨hx, hsx⟩ := S.capt x (g2g e1)
    obtain ⟨m, hn, hl⟩ := I.loc
    obtain ⟨u, r, lk⟩ := hl j x v q2 e2' (.inr hx)
    refine ⟨u, r, ?_⟩
    rcases lk with ⟨k1, _⟩ | ⟨k1, c, k2, k3⟩
    ·have k1 : X.env.scope.names.lookup x = some .local := k1
     rcases hx with z | z <;> rw [z] at k1 <;> cases k1
    ·obtain ⟨c', hc'⟩ := c2 x (ZH hsx)
     have z := c1 x c' hc'
     rw [k2] at z; cases z
     obtain ⟨o, ho, hd⟩ := k3
     exact .inr ⟨jC hsx, c, hc', o, hk _ _ ho, hd⟩
 ·intro x c e
  obtain ⟨v, o, ho, hd⟩ := I.cell x c (c1 x c e)
  exact ⟨v, o, hk _ _ ho, hd⟩
 ·show (upd H s.heap.objs.size (.lst [])) C = none
  rw [zw hCD]; exact hfC
 ·intro x c e
  have z := I.freeC x c (c1 x c e)
  obtain ⟨v, o, ho, hd⟩ := I.cell x c (c1 x c e)
  show (upd H s.heap.objs.size (.lst [])) c = none
  rw [zw (g1b (Heap.lt_size ho))]; exact z
 ·intro p hp; cases hp
 ·show (YB own.length caps σ).length = (own ++ frees).length
  have hcl : caps.length = frees.length := by have := congrArg g2u hcap; simpa using this
  simp [YB, hcl]
def qR (ρ : Rho) : Prop := ∀ (i : Nat) (sl : Slot), ρ[i]? = some sl -> sl.own = false
theorem Rep.rebase {K : W.Frag} {H₀ Hf₀ : Hp} {σ : St} {ρ : Rho} {H Hf H' : Hp} (R : Rep K H₀ Hf₀ σ ρ H Hf) (hn : qR ρ) (hs : yp Hf H') : Rep K H' Hf σ ρ H' Hf where
 s0 := zv
 sf := hs
 nf := fun _ _ e => .inl e
 f0 := zv
 len := R.len
 fr := R.fr
 ow := fun i sl e o => by rw [hn i sl e] at o; cases o
 inj := fun i j sl sl' a e o => by rw [hn i sl e] at o; cases o
def qt (γ : FG) : Prop := ∀ d ρ ρ', γ d ρ = some ρ' -> qR ρ -> qR ρ'
theorem qR.set {ρ : Rho} (h : qR ρ) (i : Nat) (d : D) : qR (ρ.set i (.fr d)) := fun j sl e => by
 rw [g1a] at e
 split at e
 ·split at e
  ·cases e; rfl
  ·cases e
 ·exact h j sl e
theorem vE {i : Nat} : qt (zQ i) := fun d ρ ρ' e h => by cases e; exact h.set i d
def j4 (δ : FGs) : Prop := ∀ ds ρ ρ', δ ds ρ = some ρ' -> qR ρ -> qR ρ'
theorem QT : j4 YO := fun ds ρ ρ' e h => by
 cases ds with
 | nil => cases e; exact h
 | cons _ _ => cases e
theorem jX {γ : FG} {δ : FGs} (h1 : qt γ) (h2 : j4 δ) : j4 (y7 γ δ) := fun ds ρ ρ' e h => by
 cases ds with
 | nil => cases e
 | cons d r =>
  have e : (γ d ρ).bind (fun ρ' => δ r ρ') = some ρ' := e
  cases e1 : γ d ρ with
  | none => rw [e1] at e; cases e
  | some ρ1 => rw [e1] at e; exact h2 r ρ1 ρ' e (h1 d ρ ρ1 e1 h)
theorem Gy {n : Nat} {δ : FGs} (h : j4 δ) : qt (Zs n δ) := fun d ρ ρ' e hn => by
 unfold Zs at e
 split at e
 ·split at e
  ·exact h _ ρ ρ' e hn
  ·cases e
 ·cases e
theorem qR.comp {n : Nat} {caps : List Nat} {ρ : Rho} : qR (uh n caps ρ) := fun i sl e => by
 unfold uh at e
 by_cases h : i < n
 ·rw [g1i (by simpa using h), g1u, if_pos h] at e
  cases e; rfl
 ·rw [g0z (by simpa using h), g0w] at e
  cases q : caps[i - (g0i n Slot.no).length]? with
  | none => rw [q] at e; cases e
  | some j =>
   rw [q] at e
   cases e
   unfold Dg
   split <;> rfl
theorem J4 {K : W.Frag} {H₀ Hf₀ : Hp} {σ : St} {ρ : Rho} {H Hf H' : Hp} {n : Nat} {caps : List Nat} (R : Rep K H₀ Hf₀ σ ρ H Hf) (hs : yp Hf H') : Rep K H' Hf (YB n caps σ) (uh n caps ρ) H' Hf where
 s0 := zv
 sf := hs
 nf := fun _ _ e => .inl e
 f0 := zv
 len := by simp [uh, YB]
 fr := fun i d e => by
  unfold uh at e
  unfold YB
  by_cases h : i < n
  ·rw [g1i (by simpa using h), g1u, if_pos h] at e
   cases e
  ·rw [g0z (by simpa using h), g0w] at e ⊢
   simp only [List.length_replicate] at e ⊢
   cases q : caps[i - n]? with
   | none => rw [q] at e; cases e
   | some j =>
    rw [q] at e
    simp only [g1w, g2s.injEq] at e ⊢
    unfold Dg at e
    split at e
    ·cases e
     rename_i e
     obtain ⟨v, q1, q2⟩ := R.fr j d e
     exact ⟨v, by rw [g0l, q1]; rfl, q2⟩
    ·cases e
 ow := fun i sl e o => by rw [qR.comp i sl e] at o; cases o
 inj := fun i j sl sl' a e o => by rw [qR.comp i sl e] at o; cases o
theorem Grows.trans {H Hf H1 Hf1 H2 Hf2 : Hp} (a : Grows H Hf H1 Hf1) (b : Grows H1 Hf1 H2 Hf2) : Grows H Hf H2 Hf2 :=
 ⟨a.h.trans b.h, a.f.trans b.f, b.fh, fun c o e => by
  rcases b.new c o e with q | q | q
  ·exact a.new c o q
  ·exact .inr (.inl (a.h.free q))
  ·exact .inr (.inr q)⟩
theorem Rep.toGrows {K : W.Frag} {σ : St} {ρ : Rho} {H Hf H' Hf' : Hp} (R : Rep K H Hf σ ρ H' Hf') : Grows H Hf H' Hf' := ⟨R.s0, R.f0, R.sf, R.nf⟩
theorem WD {γ : FG} {ft : FT} {f : FE} {d : D} {ds ys : List D} {ρ : Rho} (h : xh γ ft f (d :: ds) ρ = some ys) :
  ∃ ρ1 b, γ d ρ = some ρ1 /\ ft ρ1 = some b /\ ((b = true /\ ∃ y r, f ρ1 = some y /\ xh γ ft f ds ρ1 = some r /\ ys = y :: r) \/ (b = false /\ xh γ ft f ds ρ1 = some ys)) := by
 unfold xh at h
 cases e1 : γ d ρ with
 | none => rw [e1] at h; cases h
 | some ρ1 =>
  rw [e1] at h
  simp only [g0a] at h
  cases e2 : ft ρ1 with
  | none => rw [e2] at h; cases h
  | some b =>
   rw [e2] at h
   simp only [g0a] at h
   refine ⟨ρ1, b, rfl, e2, ?_⟩
   cases b with
   | false => exact .inr ⟨rfl, by simpa using h⟩
   | true =>
    simp only [if_true] at h
    cases e3 : f ρ1 with
    | none => rw [e3] at h; cases h
    | some y =>
     rw [e3] at h
     simp only [g0a] at h
     cases e4 : xh γ ft f ds ρ1 with
     | none => rw [e4] at h; cases h
     | some r => rw [e4] at h; cases h; exact .inl ⟨rfl, y, r, rfl, rfl, rfl⟩
theorem XM {tg elt iter : Expr} {ifs : List Expr} {pos : Pos} {γ : FG} {ft : FT} {f : FE} {pins : List (Addr × Obj)} {s₂ : Shared} {σ : St} {H₂ Hf₂ H₀ Hf₀ : Hp} {ρ : Rho} {ds ys : List D} {J : It} {fp : List Addr} {it : Addr} {tn : Nat -> Heap -> Prop} {E : Value -> Shared -> Prop}
  (hc : X.calm = true) (S : CompScope X.env.scope scope own frees) (hcap : caps.map (fun j => X.N[j]?) = frees.map some) (kn : qt γ)
  (body : ∀ cl C s H fp, DG (cxC X scope cl C (own ++ frees) s H fp) tg γ /\ DQ (cxC X scope cl C (own ++ frees) s H fp) ifs ft /\ DE (cxC X scope cl C (own ++ frees) s H fp) elt f)
  (c1 : ∀ x c, cl.lookup x = some c -> X.env.cells.lookup x = some c) (c2 : ∀ n, (n, NameKind.free) ∈ scope.names -> ∃ c, cl.lookup n = some c)
  (I : Inv X pins σ H₂ s₂) (T : Turn X.prog X.w X.K tg J fp it tn) (st : tn 0 s₂.heap) (hfp : ∀ b ∈ fp, vH X pins H₂ b) (R : Rep X.K H₀ Hf₀ σ ρ H₂ Hf₂) (wk : Walks X.K Hf₂ J ds) (hz : ds.length <= sizeLine)
  (hgo : xh γ ft f ds (uh own.length caps ρ) = some ys) {RR : Value -> Addr -> Result -> Shared -> Prop}
  (hRR : ∀ D C s' H' Hf' xs, Inv X pins σ H' s' -> (∃ m, s'.heap.Ns C m) -> vH X pins H' C -> Grows H₂ Hf₂ H' Hf' -> z7 X.K Hf' ys xs -> H' D = some (.lst xs) -> Hf' D = none -> H₂ D = none -> RR (.ref D) C (.ok .next) s') :
  wpAny (model X.prog X.w) X.A (newList []) (fun acc s₃ => wpAny (model X.prog X.w) X.A (newFunctionEnv scope X.env.globals cl [] X.env.qual none .none (some X.env)) (fun cenv s₄ =>
   codeAny (model X.prog X.w) X.A (.compStart (.ListComp elt [⟨tg, iter, ifs, 0⟩] scope pos) 0 (.ref it) acc { cenv with scope := relabel scope X.env }) (RR acc cenv.locals) s₄) E s₃) E s₂ := by
 have hfo : ∀ b ∈ fp, b < s₂.heap.objs.size := fun b hb => by
  obtain ⟨o, ho, _⟩ := T.obj 0 _ st b hb
  exact Heap.lt_size ho
 refine wpAny_newObj_type (wpAny_newFunctionEnv S.nocell (by intro y hy; simp at hy) (fun h₁ hns₁ hsb₁ => ?_) S.kind)
 dsimp only at hns₁ hsb₁ ⊢
 have hC : (s₂.heap.push { cls := .type "list", dict := none, data := .seq ([] : List Value).toArray }).objs.size = s₂.heap.objs.size + 1 := by rw [Heap.size_push]
 generalize hCe : (s₂.heap.push { cls := .type "list", dict := none, data := .seq ([] : List Value).toArray }).objs.size = C at hC hns₁ hsb₁ ⊢
 obtain ⟨b1, b2, b3⟩ := body cl C s₂ H₂ fp
 have hfD : H₂ s₂.heap.objs.size = none := I.hok.fresh (g0o _)
 have IC : Inv (cxC X scope cl C (own ++ frees) s₂ H₂ fp) [] (YB own.length caps σ) (upd H₂ s₂.heap.objs.size (.lst [])) { s₂ with heap := h₁, toks := s₂.toks + ([] : List (Str × Value)).length } :=
  Bl I S hcap hfp hfo c1 c2 hC hns₁ hsb₁
 have DfD : Hf₂ s₂.heap.objs.size = none := R.sf.free hfD
 have R1 : Rep X.K (upd H₂ s₂.heap.objs.size (.lst [])) Hf₂ (YB own.length caps σ) (uh own.length caps ρ) (upd H₂ s₂.heap.objs.size (.lst [])) Hf₂ := J4 R (R.sf.trans (zY hfD))
 have keep1 : ∀ b o, s₂.heap.get? b = some o -> h₁.get? b = some o := fun b u e => (hsb₁.2 b (by rw [hC]; exact g1b (Nat.lt_succ_of_lt (Heap.lt_size e)))).trans (Heap.get?_push_of_some _ (Heap.get?_push_of_some _ e))
 have st1 : tn 0 h₁ := T.keep 0 _ _ st fun b _ o e => keep1 b o e
 have stat : ∀ {H' : Hp}, (∀ b ∈ fp, H' b = none) -> ∀ b ∈ fp, vH (cxC X scope cl C (own ++ frees) s₂ H₂ fp) [] H' b := fun {H'} hn b hb => by
  refine ⟨hn b hb, g1b (g1d (hfo b hb) (by rw [hC]; exact Nat.le_succ _)), fun z => ?_, .inl hb, fun x c e => (hfp b hb).2.2.2.2.1 x c (c1 x c e), fun p hp => by cases hp⟩
  rcases g0m.mp (I.stkSub b z) with q | q
  ·exact (hfp b hb).2.1 q
  ·exact (hfp b hb).2.2.1 q
 have fp1 : ∀ b ∈ fp, (upd H₂ s₂.heap.objs.size (.lst [])) b = none := fun b hb => by
  rw [zw (g1b (hfo b hb))]; exact (hfp b hb).1
 have loop : ∀ s₃ : Shared, s₃ = { s₂ with heap := h₁, toks := s₂.toks + ([] : List (Str × Value)).length } →
   codeAny (model X.prog X.w) X.A (.compLoop (.ListComp elt [⟨tg, iter, ifs, 0⟩] scope pos) 0 (.ref it) (.ref s₂.heap.objs.size) (compEnvC scope cl C X.env)) (RR (.ref s₂.heap.objs.size) C) s₃ := by
  rintro s₃ rfl
  refine XN (fun n s' => ∃ i ρ' σ' H' Hf' zs xs r, n = ds.length - i /\ i <= ds.length /\ Inv (cxC X scope cl C (own ++ frees) s₂ H₂ fp) [] σ' H' s' /\ tn i s'.heap /\ (∀ b ∈ fp, H' b = none) /\ Rep X.K H' Hf' σ' ρ' H' Hf' /\ qR ρ' ∧
   xh γ ft f (ds.drop i) ρ' = some r /\ zs ++ r = ys /\ z7 X.K Hf' zs xs /\ zs.length <= i /\ H' s₂.heap.objs.size = some (.lst xs) /\ Hf' s₂.heap.objs.size = none /\ Grows H₂ Hf₂ H' Hf') ?_ ds.length
   ⟨0, _, _, _, _, [], [], ys, by simp, g2e _, IC, st1, fp1, R1, qR.comp, by simpa using hgo, rfl, .nil, by simp, zz, DfD, ⟨zY hfD, zv, R1.sf, fun b o e => .inl e⟩⟩
  rintro n s' ⟨i, ρ', σ', H', Hf', zs, xs, r, rfl, hi, I', st', fr', R', no', go', hys, hxs, hzl, hD', hfD', gr'⟩
  obtain ⟨w1, w2⟩ := wk H' Hf' gr'.f R'.sf i
  by_cases hil : i < ds.length
  ·have hd : ds[i]? = some ds[i] := g0x hil
   obtain ⟨go, yld⟩ := w1 _ hd
   rw [g1j hil] at go'
   obtain ⟨ρ1, b, eg, et, hb⟩ := WD go'
   refine wpAny_mono (T.item (cxC X scope cl C (own ++ frees) s₂ H₂ fp) rfl rfl rfl hc i [] s' σ' H' (fun _ _ => False) I' (stat fr') st' go) (fun rv s4 ⟨u, hr, h4⟩ => ?_) fun _ _ z => z
   subst hr
   refine wpAny_mono h4 (fun _ s5 ⟨x, H5, I5, r5, y5, st5, fr5⟩ => ?_) fun _ _ z => z
   obtain ⟨Hf5, gr5, hx5⟩ := yld x H5 y5
   have R5 : Rep X.K H' Hf' σ' ρ' H5 Hf5 := R'.grows gr5
   have I5' := I5.pinned (stat fr5) (T.obj _ _ st5)
   refine wpAny_mono (b1 _ s5 σ' H5 x u _ I5' r5 ⟨H', Hf', ρ', Hf5, ds[i], ρ1, R5, hx5, eg, fun σ6 H6 Hf6 R6 t6 => (⟨Hf6, R6, t6⟩ : ∃ Hf6, Rep X.K H' Hf' σ6 ρ1 H6 Hf6 /\ yp Hf5 Hf6)⟩) (fun _ s6 h6 => ?_) fun _ _ z => z
   obtain ⟨σ6, H6, I6, Hf6, R6, t6⟩ := h6
   refine wpAny_mono (b2 _ s6 σ6 H6 (fun b' H7 => b' = b /\ ∃ Hf7, Rep X.K H' Hf' σ6 ρ1 H7 Hf7) I6 ⟨H', Hf', ρ1, Hf6, b, R6, et, fun H7 Hf7 R7 s7 t7 => ⟨rfl, Hf7, R7⟩⟩) (fun ok s7 h7 => ?_) fun _ _ z => z
   obtain ⟨H7, I7, rfl, Hf7, R7⟩ := h7
   have no1 := kn _ _ _ eg no'
   have hm : ds.length - (i + 1) < ds.length - i := by omega
   rcases hb with ⟨rfl, y, r', ef, er, rfl⟩ | ⟨rfl, er⟩
   ·rw [if_pos rfl]
    refine wpAny_mono (b3 _ s7 σ6 H7 (fun v H8 => ∃ Hf8, Rep X.K H' Hf' σ6 ρ1 H8 Hf8 /\ Has X.K Hf8 y v) I7 ⟨H', Hf', ρ1, Hf7, y, R7, ef, fun v H8 Hf8 R8 s8 t8 h8 => ⟨Hf8, R8, h8⟩⟩) (fun u' s8 h8 => ?_) fun _ _ z => z
    obtain ⟨v, H8, I8, r8, Hf8, R8, h8⟩ := h8
    have hD8 : H8 s₂.heap.objs.size = some (.lst xs) := R8.s0 _ _ hD'
    have hfD8 : Hf8 s₂.heap.objs.size = none := by
     cases z : Hf8 s₂.heap.objs.size with
     | none => rfl
     | some o =>
      rcases R8.nf _ _ z with q | q | ⟨ks, rfl⟩
      ·rw [hfD'] at q; cases q
      ·rw [hD'] at q; cases q
      ·have := hD8.symm.trans (R8.sf _ _ z); cases this
    have hsd : yp Hf8 (upd H8 s₂.heap.objs.size (.lst (xs ++ [v]))) := fun b o e => by rw [zw (zL e hfD8)]; exact R8.sf b o e
    refine wpAny_mono (kB (X := cxC X scope cl C (own ++ frees) s₂ H₂ fp) _ s8 σ6 H8 (.ref s₂.heap.objs.size) [v] _ [u'] (fun _ H9 => H9 = upd H8 s₂.heap.objs.size (.lst (xs ++ [v]))) I8 rfl (.cons r8 .nil) ⟨_, xs, v, rfl, rfl, hD8, by have := hxs.length; omega, rfl⟩) (fun u9 s9 h9 => ?_) fun _ _ z => z
    obtain ⟨v9, H9, I9, _, rfl⟩ := h9
    refine ⟨_, hm, i + 1, ρ1, σ6, _, Hf8, zs ++ [y], xs ++ [v], r', rfl, hil, I9.unpinned, T.keep _ _ _ st5 fun b hb o e => (I9.pin (b, o) (g0v _ (g0v _ (xH hb e)))).1, fun b hb => ?_, R8.rebase no1 hsd, no1, er, by rw [g1g]; exact hys, (hxs.mono R8.f0).append (.cons h8 .nil), by simp; omega, zz, hfD8, ?_⟩
    ·obtain ⟨o, e, d⟩ := T.obj _ _ st5 b hb
     exact (I9.pin (b, o) (g0v _ (g0v _ (xH hb e)))).2.1
    ·have g8 := gr'.trans R8.toGrows
     exact ⟨fun b o e => by rw [zw (zL e hfD)]; exact g8.h b o e, g8.f, hsd, g8.new⟩
   ·rw [if_neg g1q]
    refine ⟨_, hm, i + 1, ρ1, σ6, _, Hf7, zs, xs, r, rfl, hil, I7.unpinned, T.keep _ _ _ st5 fun b hb o e => (I7.pin (b, o) (g0v _ (g0v _ (xH hb e)))).1, fun b hb => ?_, R7.rebase no1 R7.sf, no1, er, hys, hxs.mono R7.f0, by omega, R7.s0 _ _ hD', ?_, gr'.trans R7.toGrows⟩
    ·obtain ⟨o, e, d⟩ := T.obj _ _ st5 b hb
     exact (I7.pin (b, o) (g0v _ (g0v _ (xH hb e)))).2.1
    ·cases z : Hf7 s₂.heap.objs.size with
     | none => rfl
     | some o =>
      rcases R7.nf _ _ z with q | q | ⟨ks, rfl⟩
      ·rw [hfD'] at q; cases q
      ·rw [hD'] at q; cases q
      ·have := (R7.s0 _ _ hD').symm.trans (R7.sf _ _ z); cases this
  ·have : ds.drop i = [] := List.drop_eq_nil_of_le (by omega)
   rw [this] at go'
   cases go'
   rw [g0t] at hys
   subst hys
   refine wpAny_mono (T.done (cxC X scope cl C (own ++ frees) s₂ H₂ fp) rfl rfl rfl hc i [] s' σ' H' (fun _ _ => False) I' (stat fr') st' (w2 (by omega))) (fun rv s4 ⟨hr, I4⟩ => ?_) fun _ _ z => z
   subst hr
   obtain ⟨m, hn, _⟩ := I4.loc
   have hch : ∀ b ∈ fp, (b ∈ X.ex \/ X.s₀.heap.objs.size <= b) /\ b ≠ X.env.locals /\ (∀ x c, X.env.cells.lookup x = some c -> c ≠ b) /\ ∀ p ∈ X.pn ++ pins, p.1 ≠ b := fun b hb => ⟨(hfp b hb).2.2.2.1, (hfp b hb).2.1, (hfp b hb).2.2.2.2.1, (hfp b hb).2.2.2.2.2⟩
   exact hRR _ C s4 H' Hf' xs (I.call' (s' := s4) I4.os I4.base I4.hok I4.bare hch) ⟨m, hn⟩ (I.fpOk (by rw [hC]; exact Nat.le_succ _) I4.free) gr' hxs hD' hfD' hfD
 exact codeAny_compStart_list (loop _ rfl) (T.self _ 0 _ _ _ st1 (loop _ rfl))
theorem ZO {n : Nat} {fi : FA} {γ : FG} {ft : FT} {f : FE} {ρ : Rho} {ys : List D} (h : u4 n caps fi γ ft f ρ = some ys) : ∃ ds, fi ρ = some ds /\ ds.length <= sizeLine /\ xh γ ft f ds (uh n caps ρ) = some ys := by
 obtain ⟨ds, e1, e2⟩ := yz h
 split at e2
 ·exact ⟨ds, e1, by assumption, e2⟩
 ·cases e2
theorem Jq {pins : List (Addr × Obj)} {σ : St} {H : Hp} {s : Shared} (I : Inv X pins σ H s) (S : CompScope X.env.scope scope own frees) : ∃ cl, closureFor scope X.env = pure cl /\ (∀ x c, cl.lookup x = some c -> X.env.cells.lookup x = some c) /\ ∀ n, (n, NameKind.free) ∈ scope.names -> ∃ c, cl.lookup n = some c := by
 obtain ⟨cl, e1, e2, _, e4⟩ := jm (env := X.env) scope.names [] (fun n hn => I.ok.has n (S.free (n, .free) hn rfl)) (fun x c e => by simp at e)
 exact ⟨cl, YC e1, e2, e4⟩
theorem kT {tg elt iter : Expr} {ifs : List Expr} {pos : Pos} {fi : FA} {γ : FG} {ft : FT} {f : FE} (hc : X.calm = true) (S : CompScope X.env.scope scope own frees) (hcap : caps.map (fun j => X.N[j]?) = frees.map some) (kn : qt γ) (hi : DI X tg iter fi)
  (body : ∀ cl C s H fp, DG (cxC X scope cl C (own ++ frees) s H fp) tg γ /\ DQ (cxC X scope cl C (own ++ frees) s H fp) ifs ft /\ DE (cxC X scope cl C (own ++ frees) s H fp) elt f)
  (hs : ∀ x, foldedSetIterable iter X.env x = pure x := by intro _; rfl) : DN X (.ListComp elt [⟨tg, iter, ifs, 0⟩] scope pos) (u4 own.length caps fi γ ft f) := by
 intro pins s σ H Q I h
 obtain ⟨H₀, Hf₀, ρ, Hf, ys, R, q, k⟩ := h
 obtain ⟨ds, e1, hz, e2⟩ := ZO q
 obtain ⟨cl, hcl, c1, c2⟩ := Jq I S
 rw [eval_ListComp]
 refine wpAny_comprehension_free (use := none) rfl hs hcl S.kind S.loc (thn (hi pins s σ H (fun J H' => ∃ Hf', Rep X.K H₀ Hf₀ σ ρ H' Hf' /\ yp H H' /\ yp Hf Hf' /\ Walks X.K Hf' J ds) I ⟨H₀, Hf₀, ρ, Hf, ds, R, e1, fun J H' Hf' R' s' t' wk => ⟨Hf', R', s', t', wk⟩⟩) fun v s1 h1 => thn h1 fun itv s2 h2 => ?_)
 obtain ⟨it, fp, tn, J, H2, rfl, I2, T, st2, f2, Hf2, R2, s2', t2', wk⟩ := h2
 refine XM (RR := compPost (model X.prog X.w) X.A X.xe none (EP X pins σ Q)) hc S hcap kn body c1 c2 I2 T st2 f2 R2 wk hz e2 ?_
 intro D C s' H' Hf' xs I' hns hfC gr hxs hD hfD hD0
 obtain ⟨m, hn⟩ := hns
 refine ⟨m, hn, fun h' hsb => ⟨.ref D, H', ?_, rfl, ?_⟩⟩
 ·obtain ⟨f0, f1, f2, f3, f4, f5⟩ := hfC
  exact I'.turned (t' := s'.toks) (fun b o hb e => (hsb.2 b hb).trans e) f0 f1 f3 f4 f5
 ·exact k D xs H' Hf' (R2.grows gr) (s2'.trans gr.h) (t2'.trans gr.f) hxs hD hfD (s2'.free hD0)
theorem VJ {tg elt iter : Expr} {ifs : List Expr} {y : Str} {py pos spos : Pos} {fi : FA} {γ : FG} {ft : FT} {f : FE} (hc : X.calm = true) (S : CompScope X.env.scope scope own frees) (hcap : caps.map (fun j => X.N[j]?) = frees.map some) (kn : qt γ) (hi : DI X tg iter fi)
  (body : ∀ cl C s H fp, DG (cxC X scope cl C (own ++ frees) s H fp) tg γ /\ DQ (cxC X scope cl C (own ++ frees) s H fp) ifs ft /\ DE (cxC X scope cl C (own ++ frees) s H fp) elt f)
  (hsw : swapsWith (.ListComp elt [⟨tg, iter, ifs, 0⟩] scope pos) (some (.Name y py)) spos.line X.env = pure true) (i : Nat) (hN : X.N.Nodup) (hiN : X.N[i]? = some y) (hy : X.env.scope.names.lookup y = some .local)
  (hs : ∀ x, foldedSetIterable iter X.env x = pure x) : PS X (.Assign [.Name y py] (.ListComp elt [⟨tg, iter, ifs, 0⟩] scope pos) spos) (fun D' σ H => ∃ H₀ Hf₀ ρ Hf ys, Rep X.K H₀ Hf₀ σ ρ H Hf /\ u4 own.length caps fi γ ft f ρ = some ys ∧
   ∀ a xs H' Hf', Rep X.K H₀ Hf₀ σ ρ H' Hf' -> yp H H' -> yp Hf Hf' -> z7 X.K Hf' ys xs -> H' a = some (.lst xs) -> Hf' a = none -> H a = none -> D'.nx (σ.set i (some (.ref a))) H') := by
 intro pins s σ H D' I h
 obtain ⟨H₀, Hf₀, ρ, Hf, ys, R, q, k⟩ := h
 obtain ⟨ds, e1, hz, e2⟩ := ZO q
 obtain ⟨cl, hcl, c1, c2⟩ := Jq I S
 rw [exec_Assign_Name_used _ _ _ _ hsw]
 refine wpAny_bind (wpAny_standAt (wpAny_bind ?_))
 show wpAny _ X.A (do let _ ← comprehension (.ListComp elt [⟨tg, iter, ifs, 0⟩] scope pos) scope X.env _ (newList []) false (eval iter X.env) (some (assign (.Name y py) X.env))) _ _ s
 refine wpAny_bind (wpAny_mono (wpAny_comprehension_free (use := some (assign (.Name y py) X.env)) (Q := fun _ s' => SP X pins D' .next s') rfl hs hcl S.kind S.loc
  (thn (hi pins s σ H (fun J H' => ∃ Hf', Rep X.K H₀ Hf₀ σ ρ H' Hf' /\ yp H H' /\ yp Hf Hf' /\ Walks X.K Hf' J ds) I ⟨H₀, Hf₀, ρ, Hf, ds, R, e1, fun J H' Hf' R' s' t' wk => ⟨Hf', R', s', t', wk⟩⟩) fun v s1 h1 => thn h1 fun itv s2 h2 => ?_)) (fun _ s' hq => wpAny_pure (wpAny_pure hq)) fun _ _ e => e)
 obtain ⟨it, fp, tn, J, H2, rfl, I2, T, st2, f2, Hf2, R2, s2', t2', wk⟩ := h2
 refine XM (RR := compPost (model X.prog X.w) X.A X.xe (some (assign (.Name y py) X.env)) (fun _ s' => SP X pins D' .next s')) hc S hcap kn body c1 c2 I2 T st2 f2 R2 wk hz e2 ?_
 intro D C s' H' Hf' xs I' hns hfC gr hxs hD hfD hD0
 obtain ⟨m, hn⟩ := hns
 show wpAny _ X.A (assign (.Name y py) X.env (.ref D)) _ _ _
 refine wpAny_assign_Name (Y1 I' hN hiN (.inl hy) (show xK (.ref D) (.ref D) from rfl) (fun s'' I'' hsb => ?_) (.inr hy))
 obtain ⟨a, hsb, ha⟩ := hsb
 obtain ⟨f0, f1, f2', f3, f4, f5⟩ := hfC
 have haC : a ≠ C := by
  rcases ha with z | z
  ·rw [z]; exact Ne.symm f1
  ·exact f4 _ _ z
 refine ⟨m, hn.sameBut hsb (Ne.symm haC), fun h' hsb' => ?_⟩
 exact ⟨_, H', I''.turned (t' := s''.toks) (fun b o hb e => (hsb'.2 b hb).trans e) f0 f1 f3 f4 f5, k D xs H' Hf' (R2.grows gr) (s2'.trans gr.h) (t2'.trans gr.f) hxs hD hfD (s2'.free hD0)⟩
end
structure Draw (P : Program) (w : World) (K : W.Frag) (J : It) (fp : List Addr) (it : Addr) (tn : Nat -> Heap -> Prop) : Prop where
 mem : it ∈ fp
 obj : ∀ i h, tn i h -> ∀ b ∈ fp, ∃ o, h.get? b = some o /\ ∀ v, o.data ≠ .cell v
 keep : ∀ i h h', tn i h -> (∀ b ∈ fp, ∀ o, h.get? b = some o -> h'.get? b = some o) -> tn i h'
 item : ∀ (A : Around) (X : Cx), X.prog = P -> X.w = w -> X.K = K -> ∀ (i : Nat) (pins : List (Addr × Obj)) (s : Shared) (σ : St) (H : Hp) (E : Value -> Shared -> Prop), Inv X pins σ H s -> (∀ b ∈ fp, vH X pins H b) -> tn i s.heap -> J.go i H →
  wpAny (model P w) A (Builtin.SmallTypes.nextOf (.ref it)) (fun u s2 => ∃ x H', Inv X pins σ H' s2 /\ xK x u /\ J.yld i H x H' /\ tn (i + 1) s2.heap /\ ∀ b ∈ fp, H' b = none) E s
 fin : ∀ (A : Around) (X : Cx), X.prog = P -> X.w = w -> X.K = K -> A.handled = none -> ∀ (i : Nat) (pins : List (Addr × Obj)) (s : Shared) (σ : St) (H : Hp) (Q : Value -> Shared -> Prop), Inv X pins σ H s -> (∀ b ∈ fp, vH X pins H b) -> tn i s.heap -> J.stop i H →
  wpAny (model P w) A (Builtin.SmallTypes.nextOf (.ref it)) Q (fun e s2 => Inv X pins σ H s2 /\ ∃ a o, e = .ref a /\ s2.heap.get? a = some o /\ o.cls = .type "StopIteration") s
section
variable {prog : Program} {w : World} {A : Around} {E : Value -> Shared -> Prop} {s : Shared}
theorem jd {it l : Addr} {i : Nat} {items : Array Value} {x : Value} {Q : Value -> Shared -> Prop} (hit : s.heap.IsTupleIter it l i) (hl : s.heap.IsTuple l items) (hx : items[i]? = some x)
  (hQ : ∀ h', h'.IsTupleIter it l (i + 1) -> Heap.SameBut it s.heap h' -> Q x { s with heap := h' }) : wpAny (model prog w) A (Builtin.SmallTypes.nextOf (.ref it)) Q E s := by
 obtain ⟨o, ho, hc, hd⟩ := id hit
 obtain ⟨ol, hol, _, nl, hdl⟩ := hl
 unfold Builtin.SmallTypes.nextOf
 refine wpAny_bind (wpAny_callSpecial?_slot (name := Str.ofString "__next__") hit.typeIs F.slot_tuple_iterator_next
  (wpAny_call_entry F.slot_tuple_iterator_next hit.typeIs F.entry_tuple_iterator_next ?_ (F.args_tuple_iterator_next_1 _)))
 show wpAny _ _ (field (.ref it) 0 >>= _) _ _ s
 refine wpAny_bind (wpAny_field ho hd (x := .ref l) rfl ?_)
 show wpAny _ _ (if (Value.ref l == Value.none) = true then _ else _) _ _ s
 rw [if_neg (show ¬ ((Value.ref l == Value.none) = true) from g1q)]
 show wpAny _ _ (field (.ref it) 1 >>= _) _ _ s
 refine wpAny_bind (wpAny_field ho hd (x := .int i 0) rfl ?_)
 show wpAny _ _ (seqItems? (.ref l) >>= _) _ _ s
 refine wpAny_bind (wpAny_seqItems hol hdl ?_)
 simp only [Int.toNat_natCast, hx]
 refine wpAny_bind (wpAny_setField ho hd (by simp) (wpAny_pure ⟨x, rfl, wpAny_pure (hQ _ ?_ (Heap.SameBut.update ..))⟩))
 exact ⟨_, Heap.get?_update_self _ ho (Obj.isFreed_of_fields (Obj.data_mapFields hd _)), (Obj.cls_mapFields ..).trans hc, by rw [Obj.data_mapFields hd]; simp [rawInt]⟩
theorem jT {it l : Addr} {i : Nat} {items : Array Value} {Q : Value -> Shared -> Prop} (hh : A.handled = none) (hit : s.heap.IsTupleIter it l i) (hl : s.heap.IsTuple l items) (hx : items[i]? = none)
  (hE : ∀ h' e, Heap.ExtBut it s.heap h' -> (∃ o, h'.get? e = some o /\ o.cls = .type "StopIteration") -> E (.ref e) { s with heap := h' }) : wpAny (model prog w) A (Builtin.SmallTypes.nextOf (.ref it)) Q E s := by
 obtain ⟨o, ho, hc, hd⟩ := id hit
 obtain ⟨ol, hol, _, nl, hdl⟩ := hl
 unfold Builtin.SmallTypes.nextOf
 refine wpAny_bind (wpAny_callSpecial?_slot (name := Str.ofString "__next__") hit.typeIs F.slot_tuple_iterator_next
  (wpAny_call_entry F.slot_tuple_iterator_next hit.typeIs F.entry_tuple_iterator_next ?_ (F.args_tuple_iterator_next_1 _)))
 show wpAny _ _ (field (.ref it) 0 >>= _) _ _ s
 refine wpAny_bind (wpAny_field ho hd (x := .ref l) rfl ?_)
 show wpAny _ _ (if (Value.ref l == Value.none) = true then _ else _) _ _ s
 rw [if_neg (show ¬ ((Value.ref l == Value.none) = true) from g1q)]
 show wpAny _ _ (field (.ref it) 1 >>= _) _ _ s
 refine wpAny_bind (wpAny_field ho hd (x := .int i 0) rfl ?_)
 show wpAny _ _ (seqItems? (.ref l) >>= _) _ _ s
 refine wpAny_bind (wpAny_seqItems hol hdl ?_)
 simp only [Int.toNat_natCast, hx]
 refine wpAny_bind (wpAny_rule (wpAny_bind (wpAny_setField ho hd (by simp) ?_)))
 show wpAny _ _ (newExc (.type "StopIteration") [] >>= _) _ _ _
 refine wpAny_bind ?_
 simp only [newExc, newTuple]
 refine wpAny_bind (wpAny_newObj_type ?_ (by size_fits))
 refine wpAny_bind (m := firstArgMember _ _) (wpAny_of_eq (a := Value.none) (by first | rfl | (simp only [firstArgMember]; rfl)) ?_)
 refine wpAny_newObj_type ?_ (by size_fits)
 simp only [raiseNew]
 refine wpAny_bind (wpAny_handled ?_)
 first | rw [show A.in1.handled = none from hh] | rw [hh]
 refine wpAny_bind (wpAny_pure (wpAny_throw ?_))
 exact hE _ _ (((Heap.SameBut.update ..).extBut.push _).push _) ⟨_, Heap.get?_push_size _ rfl, rfl⟩
end
theorem Jj {P : Program} {w : World} {K : W.Frag} (a it : Addr) : Draw P w K (Itl K a) [it] it (fun i h => h.IsListIter it a i) where
 mem := by simp
 obj := fun i h st b hb => by
  have e : b = it := by simpa using hb
  subst e
  obtain ⟨o, e, c, d⟩ := st
  exact ⟨o, e, fun v z => by rw [d] at z; cases z⟩
 keep := fun i h h' st k => st.at fun o e => k it (by simp) o e
 item := by
  intro A X hP hw hK i pins s σ H E I hf st hg
  subst hP hw hK
  obtain ⟨xs, x, hq, hx⟩ := hg
  obtain ⟨its, rv, p, hz⟩ := I.list hq
  obtain ⟨u, hu, ru⟩ := rv.get hx
  obtain ⟨f0, f1, f2, f3, f4, f5⟩ := hf it (by simp)
  refine wpAny_nextOf_list_item st p.isList (x := u) (by simpa using hu) fun h' st' sb => ?_
  have I1 : Inv X pins σ H { s with heap := h' } := I.turned (t' := s.toks) (fun b o hb e => (sb.2 b hb).trans e) f0 f1 f3 f4 f5
  exact ⟨x, H, I1, ru, ⟨rfl, fun ys hy => by rw [I.list_inj hy hq]; exact hx⟩, st', fun b hb => (hf b hb).1⟩
 fin := by
  intro A X hP hw hK hh i pins s σ H Q I hf st hg
  subst hP hw hK
  obtain ⟨xs, hq, hx⟩ := hg
  obtain ⟨its, rv, p, hz⟩ := I.list hq
  obtain ⟨f0, f1, f2, f3, f4, f5⟩ := hf it (by simp)
  have hl := rv.length
  refine wpAny_nextOf_list_end hh st p.isList (by simp; omega) fun h' e eb ⟨o, ho, hc⟩ => ⟨I.turned (t' := s.toks) (fun b o hb e => eb b o hb e) f0 f1 f3 f4 f5, e, o, rfl, ho, hc⟩
theorem Ur {P : Program} {w : World} {K : W.Frag} (a it : Addr) : Draw P w K (Itt K a) [it] it (fun i h => h.IsTupleIter it a i) where
 mem := by simp
 obj := fun i h st b hb => by
  have e : b = it := by simpa using hb
  subst e
  obtain ⟨o, e, c, d⟩ := st
  exact ⟨o, e, fun v z => by rw [d] at z; cases z⟩
 keep := fun i h h' st k => st.at fun o e => k it (by simp) o e
 item := by
  intro A X hP hw hK i pins s σ H E I hf st hg
  subst hP hw hK
  obtain ⟨xs, x, hq, hx⟩ := hg
  obtain ⟨its, rv, p, hz⟩ := I.tuple hq
  obtain ⟨u, hu, ru⟩ := rv.get hx
  obtain ⟨f0, f1, f2, f3, f4, f5⟩ := hf it (by simp)
  refine jd st (show s.heap.IsTuple a its.toArray from p) (x := u) (by simpa using hu) fun h' st' sb => ?_
  have I1 : Inv X pins σ H { s with heap := h' } := I.turned (t' := s.toks) (fun b o hb e => (sb.2 b hb).trans e) f0 f1 f3 f4 f5
  exact ⟨x, H, I1, ru, ⟨rfl, fun ys hy => by rw [I.tuple_inj hy hq]; exact hx⟩, st', fun b hb => (hf b hb).1⟩
 fin := by
  intro A X hP hw hK hh i pins s σ H Q I hf st hg
  subst hP hw hK
  obtain ⟨xs, hq, hx⟩ := hg
  obtain ⟨its, rv, p, hz⟩ := I.tuple hq
  obtain ⟨f0, f1, f2, f3, f4, f5⟩ := hf it (by simp)
  have hl := rv.length
  exact jT hh st (show s.heap.IsTuple a its.toArray from p) (by simp; omega) fun h' e eb ⟨o, ho, hc⟩ => ⟨I.turned (t' := s.toks) (fun b o hb e => eb b o hb e) f0 f1 f3 f4 f5, e, o, rfl, ho, hc⟩
def ItE (J : It) : It := ⟨J.go, fun i H x H' => ∃ y H1 p, J.yld i H y H1 /\ H1 p = none /\ x = .ref p /\ H' = upd H1 p (.tup [.int i, y]), J.stop⟩
theorem vH.more {X : Cx} {pins : List (Addr × Obj)} {H : Hp} {b c : Addr} {h : Heap} (f : vH X pins H b) (hne : b ≠ c) : vH X (pins ++ jG [c] h) H b := by
 obtain ⟨f0, f1, f2, f3, f4, f5⟩ := f
 refine ⟨f0, f1, f2, f3, f4, fun p hp z => ?_⟩
 rcases g1h.mp hp with q | q
 ·exact f5 p (g2y _ q) z
 ·rcases g1h.mp q with q | q
  ·exact f5 p (g0v _ q) z
  ·have := (ky q).1
   have e : p.1 = c := by simpa using this
   exact hne (z ▸ e)
theorem YY {P : Program} {w : World} {K : W.Frag} {elts : List Expr} {kx : Nat} {tp : Pos} {J : It} {fp : List Addr} {it e : Addr} {tn : Nat -> Heap -> Prop} (T : Draw P w K J fp it tn) (hne : ∀ b ∈ fp, b ≠ e) :
    Turn P w K (.Tuple elts kx tp) (ItE J) (e :: fp) e (fun i h => tn i h /\ ∃ old, IsEnum h e it i old) where
  mem := g0s
  obj := fun i h st b hb => by
    rcases g0m.mp hb with rfl | hb
    · obtain ⟨_, old, he⟩ := st
      exact ⟨_, he, fun v z => by cases z⟩
    · exact T.obj i h st.1 b hb
  keep := fun i h h' st k => ⟨T.keep i h h' st.1 fun b hb o e => k b (g0n _ hb) o e, by obtain ⟨_, old, he⟩ := st; exact ⟨old, k e g0s _ he⟩⟩
  item := by
    intro X hP hw hK hc i pins s σ H E I hf st hg
    subst hP hw hK
    obtain ⟨st, old, he⟩ := st
    have hT : s.TypeIs (.ref e) "enumerate" := ⟨_, he, rfl⟩
    have fe := hf e g0s
    obtain ⟨f0, f1, f2, f3, f4, f5⟩ := id fe
    unfold pyNext
    refine wpAny_bind (wpAny_attempt (wpAny_callSpecial?_slot (name := Str.ofString "__next__") hT F.slot_enumerate_next
      (wpAny_call_entry F.slot_enumerate_next hT F.entry_enumerate_next ?_ (F.args_enumerate_next_1 _))))
    show wpAny _ _ (field (.ref e) 2 >>= _) _ _ _
    refine wpAny_bind (wpAny_field he rfl (x := .ref it) rfl ?_)
    have I0 := I.pinned (fp := [e]) (fun b hb => by have z : b = e := by simpa using hb
                                                    subst z; exact fe) (fun b hb => by have z : b = e := by simpa using hb
                                                                                       subst z; exact ⟨_, he, fun v z => by cases z⟩)
    refine wpAny_bind (wpAny_mono (T.item _ X rfl rfl rfl i _ s σ H _ I0 (fun b hb => vH.more (hf b (g0n _ hb)) (hne b hb)) st hg) (fun u s1 h1 => ?_) fun _ _ z => z)
    obtain ⟨x, H1, I1, rx, yl, st1, fr1⟩ := h1
    obtain ⟨he₁, f0', _⟩ := I1.pin _ (g0v _ (g0v _ (xH (fp := [e]) (by simp) he)))
    have he₁ : IsEnum s1.heap e it i old := he₁
    have f0' : H1 e = none := f0'
    have I1 := I1.unpinned
    obtain ⟨hp, g, d, tk, os⟩ := s1
    show wpAny _ _ (field (.ref e) 3 >>= _) _ _ _
    refine wpAny_bind (wpAny_field he₁ rfl (x := rawInt i) rfl ?_)
    show wpAny _ _ (field (.ref e) 4 >>= _) _ _ _
    refine wpAny_bind (wpAny_field he₁ rfl (x := .none) rfl ?_)
    show wpAny _ _ (mkInt i >>= _) _ _ _
    refine wpAny_bind (wpAny_mkInt ?_)
    show wpAny _ _ (setField (.ref e) 3 (rawInt ((i : Int) + 1)) >>= _) _ _ _
    refine wpAny_bind (wpAny_setField_rec he₁ (by simp) fun h₂ he₂ hs₂ => ?_)
    replace hs₂ : Heap.SameBut e hp h₂ := hs₂
    replace he₂ : IsEnum h₂ e it ((i : Int) + 1) old := he₂
    show wpAny _ _ (setField (.ref e) 4 .none >>= _) _ _ ⟨h₂, g, d, tk + 1, os⟩
    refine wpAny_bind (wpAny_setField_rec he₂ (by simp) fun h₃ he₃ hs₃ => ?_)
    replace hs₃ : Heap.SameBut e h₂ h₃ := hs₃
    replace he₃ : IsEnum h₃ e it ((i : Int) + 1) old := he₃
    have I3 : Inv X pins σ H1 ⟨h₃, g, d, tk + 1, os⟩ := I1.turned (t' := tk + 1) (fun b o hb q => (hs₃.2 b hb).trans ((hs₂.2 b hb).trans q)) f0' f1 f3 f4 f5
    show wpAny _ _ (newTuple [.int i tk, u] >>= _) _ _ ⟨h₃, g, d, tk + 1, os⟩
    refine wpAny_bind (wpAny_newTuple ?_)
    have he₄ : IsEnum (h₃.push { cls := .type "tuple", data := .seq #[.int i tk, u] }) e it ((i : Int) + 1) old := Heap.get?_push_of_some _ he₃
    have hf4 : H1 h₃.objs.size = none := I3.hok.fresh (g0o _)
    have I4 : Inv X pins σ (upd H1 h₃.objs.size (.tup [.int i, x])) ⟨h₃.push { cls := .type "tuple", data := .seq #[.int i tk, u] }, g, d, tk + 1, os⟩ :=
      I3.laid (t' := tk + 1) (fun b u e => Heap.get?_push_of_some _ e) (g0o _) ⟨by show 2 <= sizeLine; decide, [.int i tk, u], .cons ⟨tk, rfl⟩ (.cons rx .nil), ⟨_, Heap.get?_push_size _ rfl, rfl, _, rfl⟩⟩
    have hel : e < h₃.objs.size := Heap.lt_size he₃
    have fe4 : (upd H1 h₃.objs.size (.tup [.int i, x])) e = none := by rw [zw (g1b hel)]; exact f0'
    generalize hh₄ : h₃.push { cls := .type "tuple", data := .seq #[.int i tk, u] } = h₄ at he₄ I4
    have st4 : tn (i + 1) h₄ := T.keep _ _ _ st1 fun b hb o q => by rw [<- hh₄]; exact Heap.get?_push_of_some _ ((hs₃.2 b (hne b hb)).trans ((hs₂.2 b (hne b hb)).trans q))
    show wpAny _ _ (Builtin.SmallTypes.ownedTupleIsFree (.ref e) >>= _) _ _ ⟨h₄, g, d, tk + 1, os⟩
    refine wpAny_bind ?_
    unfold Builtin.SmallTypes.ownedTupleIsFree
    refine wpAny_bind (wpAny_field he₄ rfl (x := .none) rfl (wpAny_pure ?_))
    simp only [if_true]
    refine wpAny_bind (wpAny_rule ?_)
    refine wpAny_bind (wpAny_field he₄ rfl (x := old) rfl ?_)
    refine wpAny_bind (wpAny_setField_rec he₄ (by simp) fun h₅ he₅ hs₅ => ?_)
    replace hs₅ : Heap.SameBut e h₄ h₅ := hs₅
    replace he₅ : IsEnum h₅ e it ((i : Int) + 1) u := he₅
    show wpAny _ _ (Builtin.SmallTypes.ownedTupleHandOut (.ref e) (.ref h₃.objs.size) >>= _) _ _ ⟨h₅, g, d, tk + 1, os⟩
    refine wpAny_bind ?_
    unfold Builtin.SmallTypes.ownedTupleHandOut
    refine wpAny_bind (wpAny_setField_rec he₅ (by simp) fun h₆ he₆ hs₆ => ?_)
    replace hs₆ : Heap.SameBut e h₅ h₆ := hs₆
    replace he₆ : IsEnumOut h₆ e it ((i : Int) + 1) u h₃.objs.size := he₆
    refine wpAny_setField_rec he₆ (by simp) fun h₇ he₇ hs₇ => ?_
    replace hs₇ : Heap.SameBut e h₆ h₇ := hs₇
    replace he₇ : IsEnumOut h₇ e it ((i : Int) + 1) u h₃.objs.size := he₇
    refine wpAny_bind (wpAny_letGo (wpAny_pure ⟨_, rfl, wpAny_pure ⟨_, rfl, ?_⟩⟩))
    unfold letOwnedTupleGo
    refine wpAny_bind (wpAny_load he₇ ?_)
    show wpAny _ _ (if (["enumerate", "zip", "dict_itemiterator", "dict_reverseitemiterator", "odict_iterator", "itertools.zip_longest", "itertools.pairwise"].contains "enumerate" &&
      (#[rawInt h₃.objs.size, .bool false, .ref it, rawInt ((i : Int) + 1), .none, u] : Array Value)[0]? == some (rawInt h₃.objs.size)) = true then _ else _) _ _ _
    rw [if_pos (by simp)]
    refine wpAny_bind (wpAny_rule ?_)
    show wpAny _ _ (setField (.ref e) 0 .none) _ _ _
    refine wpAny_setField_rec he₇ (by simp) fun h₈ he₈ hs₈ => ?_
    replace hs₈ : Heap.SameBut e h₇ h₈ := hs₈
    replace he₈ : IsEnum h₈ e it ((i : Int) + 1) u := he₈
    have k8 : ∀ b o, b ≠ e -> h₄.get? b = some o -> h₈.get? b = some o := fun b o hb q => (hs₈.2 b hb).trans ((hs₇.2 b hb).trans ((hs₆.2 b hb).trans ((hs₅.2 b hb).trans q)))
    refine ⟨.ref h₃.objs.size, _, I4.turned (t' := tk + 1) (fun b o hb q => k8 b o hb q) fe4 f1 f3 f4 f5, rfl, ⟨x, H1, h₃.objs.size, yl, hf4, rfl, rfl⟩, ⟨T.keep _ _ _ st4 fun b hb o q => k8 b o (hne b hb) q, u, he₈⟩, fun b hb => ?_⟩
    rcases g0m.mp hb with rfl | hb
    · exact fe4
    · obtain ⟨o, q, _⟩ := T.obj _ _ st1 b hb
      have q3 : h₃.get? b = some o := (hs₃.2 b (hne b hb)).trans ((hs₂.2 b (hne b hb)).trans q)
      rw [zw (g1b (Heap.lt_size q3))]
      exact fr1 b hb
  done := by
    intro X hP hw hK hc i pins s σ H E I hf st hg
    subst hP hw hK
    obtain ⟨st, old, he⟩ := st
    have hT : s.TypeIs (.ref e) "enumerate" := ⟨_, he, rfl⟩
    unfold pyNext
    refine wpAny_bind (wpAny_attempt (wpAny_callSpecial?_slot (name := Str.ofString "__next__") hT F.slot_enumerate_next
      (wpAny_call_entry F.slot_enumerate_next hT F.entry_enumerate_next ?_ (F.args_enumerate_next_1 _))))
    show wpAny _ _ (field (.ref e) 2 >>= _) _ _ _
    refine wpAny_bind (wpAny_field he rfl (x := .ref it) rfl ?_)
    refine wpAny_bind (wpAny_mono (T.fin X.A.in1 X rfl rfl rfl (I.ok.hd hc) i pins s σ H _ I (fun b hb => hf b (g0n _ hb)) st hg) (fun u s1 z => z) fun e' s1 h1 => ?_)
    obtain ⟨I1, a, o, rfl, ho, hcl⟩ := h1
    refine wpAny_bind (wpAny_isInstance (T := "StopIteration") (b := true) ⟨o, ho, hcl⟩ isSubtype_stop ?_)
    exact wpAny_pure ⟨rfl, I1⟩
  self := fun A i s Q E st h => by
    obtain ⟨_, old, he⟩ := st
    have hT : s.TypeIs (.ref e) "enumerate" := ⟨_, he, rfl⟩
    refine wpAny_pyIter_slot hT F.slot_enumerate_iter (wpAny_call_entry F.slot_enumerate_iter hT F.entry_enumerate_iter ?_ (F.args_enumerate_iter_1 _))
    show wpAny _ _ (ret (.ref e)) _ _ s
    exact wpAny_pure ⟨_, rfl, "enumerate", _, hT, F.slot_enumerate_next.lookup, h⟩
def ItZ (J1 J2 : It) : It := ⟨fun i H => J1.go i H /\ ∀ x H1, J1.yld i H x H1 -> J2.go i H1, fun i H x H' => ∃ y1 y2 H1 H2 p, J1.yld i H y1 H1 /\ J2.yld i H1 y2 H2 /\ H2 p = none /\ x = .ref p /\ H' = upd H2 p (.tup [y1, y2]),
 fun i H => J1.stop i H \/ (J1.go i H /\ ∀ x H1, J1.yld i H x H1 -> H1 = H /\ J2.stop i H)⟩
theorem vH.moreL {X : Cx} {pins : List (Addr × Obj)} {H : Hp} {b : Addr} {L : List Addr} {h : Heap} (f : vH X pins H b) (hne : b ∉ L) : vH X (pins ++ jG L h) H b := by
 obtain ⟨f0, f1, f2, f3, f4, f5⟩ := f
 refine ⟨f0, f1, f2, f3, f4, fun p hp z => ?_⟩
 rcases g1h.mp hp with q | q
 ·exact f5 p (g2y _ q) z
 ·rcases g1h.mp q with q | q
  ·exact f5 p (g0v _ q) z
  ·have := (ky q).1
   exact hne (z ▸ this)
theorem yc {X : Cx} {pins : List (Addr × Obj)} {L : List Addr} {h : Heap} {σ : St} {H : Hp} {s : Shared} (I : Inv X (pins ++ jG L h) σ H s) {b : Addr} {o : Obj} (hb : b ∈ L) (e : h.get? b = some o) : s.heap.get? b = some o /\ H b = none := by
 obtain ⟨q1, q2, _⟩ := I.pin _ (g0v _ (g0v _ (xH hb e)))
 exact ⟨q1, q2⟩
theorem xa {X : Cx} {pins : List (Addr × Obj)} {σ : St} {H : Hp} {s : Shared} {h' : Heap} {t' : Nat} {b : Addr} (I : Inv X pins σ H s) (hs : Heap.SameBut b s.heap h') (f : vH X pins H b) : Inv X pins σ H { s with heap := h', toks := t' } := by
 obtain ⟨f0, f1, f2, f3, f4, f5⟩ := f
 exact I.turned (t' := t') (fun c o hb q => (hs.2 c hb).trans q) f0 f1 f3 f4 f5
structure ZApart (z TI TO : Addr) (fp1 fp2 : List Addr) : Prop where
 a1 : z ≠ TI
 a2 : z ≠ TO
 a3 : TI ≠ TO
 z1 : ∀ b ∈ fp1 ++ fp2, b ≠ z
 z2 : ∀ b ∈ fp1 ++ fp2, b ≠ TI
 z3 : ∀ b ∈ fp1 ++ fp2, b ≠ TO
 d : ∀ b ∈ fp1, b ∉ fp2
section
variable {P : Program} {w : World} {K : W.Frag} {J1 J2 : It} {fp1 fp2 : List Addr} {i1 i2 z TI TO : Addr} {tn1 tn2 : Nat -> Heap -> Prop}
def tnZ (tn1 tn2 : Nat -> Heap -> Prop) (z TI TO i1 i2 : Addr) (i : Nat) (h : Heap) : Prop := tn1 i h /\ tn2 i h /\ IsZip h z TI TO .none /\ IsPair h TI (.ref i1) (.ref i2) /\ ∃ a b, IsPair h TO a b
theorem JN {elts : List Expr} {kx : Nat} {tp : Pos} (D1 : Draw P w K J1 fp1 i1 tn1) (D2 : Draw P w K J2 fp2 i2 tn2) (Z : ZApart z TI TO fp1 fp2) :
  Turn P w K (.Tuple elts kx tp) (ItZ J1 J2) (z :: TI :: TO :: (fp1 ++ fp2)) z (tnZ tn1 tn2 z TI TO i1 i2) where
 mem := g0s
 obj := fun i h st b hb => by
  obtain ⟨s1, s2, hz, hTI, a, b', hTO⟩ := st
  rcases g0m.mp hb with rfl | hb
  ·exact ⟨_, hz, fun v z => by cases z⟩
  rcases g0m.mp hb with rfl | hb
  ·exact ⟨_, hTI, fun v z => by cases z⟩
  rcases g0m.mp hb with rfl | hb
  ·exact ⟨_, hTO, fun v z => by cases z⟩
  rcases g1h.mp hb with hb | hb
  ·exact D1.obj i h s1 b hb
  ·exact D2.obj i h s2 b hb
 keep := fun i h h' st k => by
  obtain ⟨s1, s2, hz, hTI, a, b', hTO⟩ := st
  refine ⟨D1.keep i h h' s1 fun b hb o e => k b (by simp [hb]) o e, D2.keep i h h' s2 fun b hb o e => k b (by simp [hb]) o e, k z (by simp) _ hz, k TI (by simp) _ hTI, a, b', k TO (by simp) _ hTO⟩
 item := by
  intro X hP hw hK hc i pins s σ H E I hf st hg
  subst hP hw hK
  obtain ⟨s1, s2, hz, hTI, a, b', hTO⟩ := st
  obtain ⟨g1, g2⟩ := hg
  have hT : s.TypeIs (.ref z) "zip" := ⟨_, hz, rfl⟩
  have fz := hf z (by simp)
  have fTI := hf TI (by simp)
  have fTO := hf TO (by simp)
  have ff1 : ∀ b ∈ fp1, vH X pins H b := fun b hb => hf b (by simp [hb])
  have ff2 : ∀ b ∈ fp2, vH X pins H b := fun b hb => hf b (by simp [hb])
  have n1z : ∀ b ∈ fp1, b ≠ z := fun b hb => Z.z1 b (by simp [hb])
  have n2z : ∀ b ∈ fp2, b ≠ z := fun b hb => Z.z1 b (by simp [hb])
  have n1I : ∀ b ∈ fp1, b ≠ TI := fun b hb => Z.z2 b (by simp [hb])
  have n2I : ∀ b ∈ fp2, b ≠ TI := fun b hb => Z.z2 b (by simp [hb])
  have n1O : ∀ b ∈ fp1, b ≠ TO := fun b hb => Z.z3 b (by simp [hb])
  have n2O : ∀ b ∈ fp2, b ≠ TO := fun b hb => Z.z3 b (by simp [hb])
  unfold pyNext
  refine wpAny_bind (wpAny_attempt (wpAny_callSpecial?_slot (name := Str.ofString "__next__") hT F.slot_zip_next (wpAny_call_entry F.slot_zip_next hT F.entry_zip_next ?_ (F.args_zip_next_1 _))))
  show wpAny _ _ (field (.ref z) 2 >>= _) _ _ _
  refine wpAny_bind (wpAny_field hz rfl (x := .bool false) rfl ?_)
  show wpAny _ _ (field (.ref z) 3 >>= _) _ _ _
  refine wpAny_bind (wpAny_field hz rfl (x := .ref TI) rfl ?_)
  refine wpAny_bind (wpAny_seqItems hTI rfl ?_)
  show wpAny _ _ (Builtin.SmallTypes.ownedTupleIsFree (.ref z) >>= _) _ _ _
  refine wpAny_bind ?_
  unfold Builtin.SmallTypes.ownedTupleIsFree
  refine wpAny_bind (wpAny_field hz rfl (x := .none) rfl (wpAny_pure ?_))
  simp only [if_true]
  refine wpAny_bind (wpAny_rule ?_)
  refine wpAny_bind (wpAny_field hz rfl (x := .ref TO) rfl ?_)
  refine wpAny_bind (wpAny_setField_rec hz (by simp) fun h₁ hz₁ hs₁ => ?_)
  replace hz₁ : IsZip h₁ z TI TO .ellipsis := hz₁
  have I1 : Inv X pins σ H { s with heap := h₁ } := xa (t' := s.toks) I hs₁ fz
  have hTI₁ : IsPair h₁ TI (.ref i1) (.ref i2) := (hs₁.2 TI (Ne.symm Z.a1)).trans hTI
  have hTO₁ : IsPair h₁ TO a b' := (hs₁.2 TO (Ne.symm Z.a2)).trans hTO
  have s1₁ : tn1 i h₁ := D1.keep _ _ _ s1 fun b hb o e => (hs₁.2 b (n1z b hb)).trans e
  have s2₁ : tn2 i h₁ := D2.keep _ _ _ s2 fun b hb o e => (hs₁.2 b (n2z b hb)).trans e
  refine wpAny_bind ?_
  simp only [g3b, List.zipIdx_nil, g2n, g2z]
  refine wpAny_bind (wpAny_bind (wpAny_onRaise ?_))
  show wpAny _ _ (Builtin.SmallTypes.nextOf (.ref i1) >>= _) _ _ _
  have I1p := I1.pinned (fp := z :: TI :: TO :: fp2) (fun b hb => by
   rcases g0m.mp hb with rfl | hb
   ·exact fz
   rcases g0m.mp hb with rfl | hb
   ·exact fTI
   rcases g0m.mp hb with rfl | hb
   ·exact fTO
   ·exact ff2 b hb) (fun b hb => by
   rcases g0m.mp hb with rfl | hb
   ·exact ⟨_, hz₁, fun v z => by cases z⟩
   rcases g0m.mp hb with rfl | hb
   ·exact ⟨_, hTI₁, fun v z => by cases z⟩
   rcases g0m.mp hb with rfl | hb
   ·exact ⟨_, hTO₁, fun v z => by cases z⟩
   ·exact D2.obj _ _ s2₁ b hb)
  refine wpAny_bind (wpAny_mono (D1.item _ X rfl rfl rfl i _ _ σ H _ I1p (fun b hb => vH.moreL (ff1 b hb) (by
   intro hm
   rcases g0m.mp hm with e | hm
   ·exact n1z b hb e
   rcases g0m.mp hm with e | hm
   ·exact n1I b hb e
   rcases g0m.mp hm with e | hm
   ·exact n1O b hb e
   ·exact Z.d b hb hm)) s1₁ g1) (fun u1 s3 h3 => wpAny_pure ?_) fun _ _ z => z)
  obtain ⟨x1, H3, I3, r3, y3, st3, fr3⟩ := h3
  obtain ⟨hz₃, fz3⟩ := yc I3 (b := z) (by simp) hz₁
  obtain ⟨hTI₃, fTI3⟩ := yc I3 (b := TI) (by simp) hTI₁
  obtain ⟨hTO₃, fTO3⟩ := yc I3 (b := TO) (by simp) hTO₁
  have hz₃ : IsZip s3.heap z TI TO .ellipsis := hz₃
  have hTI₃ : IsPair s3.heap TI (.ref i1) (.ref i2) := hTI₃
  have hTO₃ : IsPair s3.heap TO a b' := hTO₃
  have s2₃ : tn2 i s3.heap := D2.keep _ _ _ s2₁ fun b hb o e => (yc I3 (by simp [hb]) e).1
  have ff2₃ : ∀ b ∈ fp2, H3 b = none := fun b hb => by
   obtain ⟨o, e, _⟩ := D2.obj _ _ s2₁ b hb
   exact (yc I3 (by simp [hb]) e).2
  have I3 := I3.unpinned
  refine wpAny_bind (wpAny_seqItems hTO₃ rfl ?_)
  refine wpAny_bind (wpAny_updateSeq_pair hTO₃ fun h₄ hTO₄ hs₄ => ?_)
  replace hTO₄ : IsPair h₄ TO u1 b' := hTO₄
  refine wpAny_bind (wpAny_letGo (wpAny_pure ?_))
  have I4 : Inv X pins σ H3 { s3 with heap := h₄ } := xa (t' := s3.toks) I3 hs₄ ⟨fTO3, fTO.2⟩
  have hz₄ : IsZip h₄ z TI TO .ellipsis := (hs₄.2 z Z.a2).trans hz₃
  have hTI₄ : IsPair h₄ TI (.ref i1) (.ref i2) := (hs₄.2 TI Z.a3).trans hTI₃
  have st4 : tn1 (i + 1) h₄ := D1.keep _ _ _ st3 fun b hb o e => (hs₄.2 b (n1O b hb)).trans e
  have s2₄ : tn2 i h₄ := D2.keep _ _ _ s2₃ fun b hb o e => (hs₄.2 b (n2O b hb)).trans e
  refine wpAny_bind (wpAny_bind (wpAny_onRaise ?_))
  show wpAny _ _ (Builtin.SmallTypes.nextOf (.ref i2) >>= _) _ _ _
  have I4p := I4.pinned (fp := z :: TI :: TO :: fp1) (fun b hb => by
   rcases g0m.mp hb with rfl | hb
   ·exact ⟨fz3, fz.2⟩
   rcases g0m.mp hb with rfl | hb
   ·exact ⟨fTI3, fTI.2⟩
   rcases g0m.mp hb with rfl | hb
   ·exact ⟨fTO3, fTO.2⟩
   ·exact ⟨fr3 b hb, (ff1 b hb).2⟩) (fun b hb => by
   rcases g0m.mp hb with rfl | hb
   ·exact ⟨_, hz₄, fun v z => by cases z⟩
   rcases g0m.mp hb with rfl | hb
   ·exact ⟨_, hTI₄, fun v z => by cases z⟩
   rcases g0m.mp hb with rfl | hb
   ·exact ⟨_, hTO₄, fun v z => by cases z⟩
   ·exact D1.obj _ _ st4 b hb)
  refine wpAny_bind (wpAny_mono (D2.item _ X rfl rfl rfl i _ _ σ H3 _ I4p (fun b hb => vH.moreL ⟨ff2₃ b hb, (ff2 b hb).2⟩ (by
   intro hm
   rcases g0m.mp hm with e | hm
   ·exact n2z b hb e
   rcases g0m.mp hm with e | hm
   ·exact n2I b hb e
   rcases g0m.mp hm with e | hm
   ·exact n2O b hb e
   ·exact Z.d b hm hb)) s2₄ (g2 _ _ y3)) (fun u2 s5 h5 => wpAny_pure ?_) fun _ _ z => z)
  obtain ⟨x2, H5, I5, r5, y5, st5, fr5⟩ := h5
  obtain ⟨hz₅, fz5⟩ := yc I5 (b := z) (by simp) hz₄
  obtain ⟨hTI₅, fTI5⟩ := yc I5 (b := TI) (by simp) hTI₄
  obtain ⟨hTO₅, fTO5⟩ := yc I5 (b := TO) (by simp) hTO₄
  have hz₅ : IsZip s5.heap z TI TO .ellipsis := hz₅
  have hTI₅ : IsPair s5.heap TI (.ref i1) (.ref i2) := hTI₅
  have hTO₅ : IsPair s5.heap TO u1 b' := hTO₅
  have st5' : tn1 (i + 1) s5.heap := D1.keep _ _ _ st4 fun b hb o e => (yc I5 (by simp [hb]) e).1
  have ff1₅ : ∀ b ∈ fp1, H5 b = none := fun b hb => by
   obtain ⟨o, e, _⟩ := D1.obj _ _ st4 b hb
   exact (yc I5 (by simp [hb]) e).2
  have I5 := I5.unpinned
  refine wpAny_bind (wpAny_seqItems hTO₅ rfl ?_)
  refine wpAny_bind (wpAny_updateSeq_pair hTO₅ fun h₆ hTO₆ hs₆ => ?_)
  replace hTO₆ : IsPair h₆ TO u1 u2 := hTO₆
  refine wpAny_bind (wpAny_letGo (wpAny_pure (wpAny_pure ?_)))
  have I6 : Inv X pins σ H5 { s5 with heap := h₆ } := xa (t' := s5.toks) I5 hs₆ ⟨fTO5, fTO.2⟩
  have hz₆ : IsZip h₆ z TI TO .ellipsis := (hs₆.2 z Z.a2).trans hz₅
  have hTI₆ : IsPair h₆ TI (.ref i1) (.ref i2) := (hs₆.2 TI Z.a3).trans hTI₅
  have st6 : tn1 (i + 1) h₆ := D1.keep _ _ _ st5' fun b hb o e => (hs₆.2 b (n1O b hb)).trans e
  have st6' : tn2 (i + 1) h₆ := D2.keep _ _ _ st5 fun b hb o e => (hs₆.2 b (n2O b hb)).trans e
  refine wpAny_bind (wpAny_seqItems hTO₆ rfl ?_)
  refine wpAny_bind (wpAny_newTuple ?_)
  have hf7 : H5 h₆.objs.size = none := I6.hok.fresh (g0o _)
  have I7 : Inv X pins σ (upd H5 h₆.objs.size (.tup [x1, x2])) { s5 with heap := h₆.push { cls := .type "tuple", data := .seq #[u1, u2] } } :=
   I6.laid (t' := s5.toks) (fun b u e => Heap.get?_push_of_some _ e) (g0o _) ⟨by show 2 <= sizeLine; decide, [u1, u2], .cons r3 (.cons r5 .nil), ⟨_, Heap.get?_push_size _ rfl, rfl, _, rfl⟩⟩
  have lz : z < h₆.objs.size := Heap.lt_size hz₆
  have lTI : TI < h₆.objs.size := Heap.lt_size hTI₆
  have lTO : TO < h₆.objs.size := Heap.lt_size hTO₆
  show wpAny _ _ (Builtin.SmallTypes.ownedTupleHandOut (.ref z) (.ref h₆.objs.size) >>= _) _ _ _
  refine wpAny_bind ?_
  unfold Builtin.SmallTypes.ownedTupleHandOut
  have hz₇ : IsZip (h₆.push { cls := .type "tuple", data := .seq #[u1, u2] }) z TI TO .ellipsis := Heap.get?_push_of_some _ hz₆
  refine wpAny_bind (wpAny_setField_rec hz₇ (by simp) fun h₈ hz₈ hs₈ => ?_)
  replace hz₈ : IsZip h₈ z TI TO (rawInt h₆.objs.size) := hz₈
  refine wpAny_setField_rec hz₈ (by simp) fun h₉ hz₉ hs₉ => ?_
  replace hz₉ : IsZip h₉ z TI TO (rawInt h₆.objs.size) := hz₉
  refine wpAny_pure ⟨_, rfl, wpAny_pure ⟨_, rfl, ?_⟩⟩
  refine wpAny_letOwnedTupleGo_zip hz₉ fun h₀ hz₀ hs₀ => ?_
  have up : ∀ c o, c ≠ z -> h₆.get? c = some o -> h₀.get? c = some o := fun c o hc e => (hs₀.2 c hc).trans ((hs₉.2 c hc).trans ((hs₈.2 c hc).trans (Heap.get?_push_of_some _ e)))
  have fz7 : (upd H5 h₆.objs.size (.tup [x1, x2])) z = none := by rw [zw (g1b lz)]; exact fz5
  refine ⟨.ref h₆.objs.size, _, I7.turned (t' := s5.toks) (fun b o hb q => (hs₀.2 b hb).trans ((hs₉.2 b hb).trans ((hs₈.2 b hb).trans q))) fz7 fz.2.1 fz.2.2.2.1 fz.2.2.2.2.1 fz.2.2.2.2.2, rfl, ⟨x1, x2, H3, H5, _, y3, y5, hf7, rfl, rfl⟩,
   ⟨D1.keep _ _ _ st6 fun b hb o e => up b o (n1z b hb) e, D2.keep _ _ _ st6' fun b hb o e => up b o (n2z b hb) e, hz₀, up _ _ (Ne.symm Z.a1) hTI₆, _, _, up _ _ (Ne.symm Z.a2) hTO₆⟩, fun b hb => ?_⟩
  have old : ∀ b, b < h₆.objs.size -> H5 b = none -> (upd H5 h₆.objs.size (.tup [x1, x2])) b = none := fun b hl hn => by rw [zw (g1b hl)]; exact hn
  rcases g0m.mp hb with rfl | hb
  ·exact fz7
  rcases g0m.mp hb with rfl | hb
  ·exact old _ lTI fTI5
  rcases g0m.mp hb with rfl | hb
  ·exact old _ lTO fTO5
  rcases g1h.mp hb with hb | hb
  ·obtain ⟨o, q, _⟩ := D1.obj _ _ st6 b hb
   exact old b (Heap.lt_size q) (ff1₅ b hb)
  ·obtain ⟨o, q, _⟩ := D2.obj _ _ st6' b hb
   exact old b (Heap.lt_size q) (fr5 b hb)
 done := by
  intro X hP hw hK hc i pins s σ H E I hf st hg
  subst hP hw hK
  obtain ⟨s1, s2, hz, hTI, a, b', hTO⟩ := st
  have hT : s.TypeIs (.ref z) "zip" := ⟨_, hz, rfl⟩
  have fz := hf z (by simp)
  have fTI := hf TI (by simp)
  have fTO := hf TO (by simp)
  have ff1 : ∀ b ∈ fp1, vH X pins H b := fun b hb => hf b (by simp [hb])
  have ff2 : ∀ b ∈ fp2, vH X pins H b := fun b hb => hf b (by simp [hb])
  have n1z : ∀ b ∈ fp1, b ≠ z := fun b hb => Z.z1 b (by simp [hb])
  have n2z : ∀ b ∈ fp2, b ≠ z := fun b hb => Z.z1 b (by simp [hb])
  have n1I : ∀ b ∈ fp1, b ≠ TI := fun b hb => Z.z2 b (by simp [hb])
  have n2I : ∀ b ∈ fp2, b ≠ TI := fun b hb => Z.z2 b (by simp [hb])
  have n1O : ∀ b ∈ fp1, b ≠ TO := fun b hb => Z.z3 b (by simp [hb])
  have n2O : ∀ b ∈ fp2, b ≠ TO := fun b hb => Z.z3 b (by simp [hb])
  unfold pyNext
  refine wpAny_bind (wpAny_attempt (wpAny_callSpecial?_slot (name := Str.ofString "__next__") hT F.slot_zip_next (wpAny_call_entry F.slot_zip_next hT F.entry_zip_next ?_ (F.args_zip_next_1 _))))
  show wpAny _ _ (field (.ref z) 2 >>= _) _ _ _
  refine wpAny_bind (wpAny_field hz rfl (x := .bool false) rfl ?_)
  show wpAny _ _ (field (.ref z) 3 >>= _) _ _ _
  refine wpAny_bind (wpAny_field hz rfl (x := .ref TI) rfl ?_)
  refine wpAny_bind (wpAny_seqItems hTI rfl ?_)
  show wpAny _ _ (Builtin.SmallTypes.ownedTupleIsFree (.ref z) >>= _) _ _ _
  refine wpAny_bind ?_
  unfold Builtin.SmallTypes.ownedTupleIsFree
  refine wpAny_bind (wpAny_field hz rfl (x := .none) rfl (wpAny_pure ?_))
  simp only [if_true]
  refine wpAny_bind (wpAny_rule ?_)
  refine wpAny_bind (wpAny_field hz rfl (x := .ref TO) rfl ?_)
  refine wpAny_bind (wpAny_setField_rec hz (by simp) fun h₁ hz₁ hs₁ => ?_)
  replace hz₁ : IsZip h₁ z TI TO .ellipsis := hz₁
  have I1 : Inv X pins σ H { s with heap := h₁ } := xa (t' := s.toks) I hs₁ fz
  have hTI₁ : IsPair h₁ TI (.ref i1) (.ref i2) := (hs₁.2 TI (Ne.symm Z.a1)).trans hTI
  have hTO₁ : IsPair h₁ TO a b' := (hs₁.2 TO (Ne.symm Z.a2)).trans hTO
  have s1₁ : tn1 i h₁ := D1.keep _ _ _ s1 fun b hb o e => (hs₁.2 b (n1z b hb)).trans e
  have s2₁ : tn2 i h₁ := D2.keep _ _ _ s2 fun b hb o e => (hs₁.2 b (n2z b hb)).trans e
  have I1p := I1.pinned (fp := z :: TI :: TO :: fp2) (fun b hb => by
   rcases g0m.mp hb with rfl | hb
   ·exact fz
   rcases g0m.mp hb with rfl | hb
   ·exact fTI
   rcases g0m.mp hb with rfl | hb
   ·exact fTO
   ·exact ff2 b hb) (fun b hb => by
   rcases g0m.mp hb with rfl | hb
   ·exact ⟨_, hz₁, fun v z => by cases z⟩
   rcases g0m.mp hb with rfl | hb
   ·exact ⟨_, hTI₁, fun v z => by cases z⟩
   rcases g0m.mp hb with rfl | hb
   ·exact ⟨_, hTO₁, fun v z => by cases z⟩
   ·exact D2.obj _ _ s2₁ b hb)
  have out1 : ∀ b ∈ fp1, vH X (pins ++ jG (z :: TI :: TO :: fp2) h₁) H b := fun b hb => vH.moreL (ff1 b hb) (by
   intro hm
   rcases g0m.mp hm with e | hm
   ·exact n1z b hb e
   rcases g0m.mp hm with e | hm
   ·exact n1I b hb e
   rcases g0m.mp hm with e | hm
   ·exact n1O b hb e
   ·exact Z.d b hb hm)
  refine wpAny_bind ?_
  simp only [g3b, List.zipIdx_nil, g2n, g2z]
  refine wpAny_bind (wpAny_bind (wpAny_onRaise ?_))
  show wpAny _ _ (Builtin.SmallTypes.nextOf (.ref i1) >>= _) _ _ _
  rcases hg with hg | ⟨g1, hg⟩
  ·refine wpAny_bind (wpAny_mono (D1.fin X.A.in1 X rfl rfl rfl (I.ok.hd hc) i _ _ σ H _ I1p out1 s1₁ hg) (fun _ _ z => z) fun e s3 h3 => ?_)
   obtain ⟨I3, c, o, rfl, ho, hcl⟩ := h3
   obtain ⟨hz₃, fz3⟩ := yc I3 (b := z) (by simp) hz₁
   have hz₃ : IsZip s3.heap z TI TO .ellipsis := hz₃
   have hcz : c ≠ z := fun x => by subst x; rw [hz₃] at ho; cases ho; simp at hcl
   refine wpAny_setField_rec hz₃ (by simp) fun h₄ hz₄ hs₄ => ?_
   refine wpAny_bind (wpAny_isInstance (T := "StopIteration") (b := true) ⟨o, (hs₄.2 c hcz).trans ho, hcl⟩ isSubtype_stop ?_)
   exact wpAny_pure ⟨rfl, xa (t' := s3.toks) I3.unpinned hs₄ ⟨fz3, fz.2⟩⟩
  ·refine wpAny_bind (wpAny_mono (D1.item _ X rfl rfl rfl i _ _ σ H _ I1p out1 s1₁ g1) (fun u1 s3 h3 => wpAny_pure ?_) fun _ _ z => z)
   obtain ⟨x1, H3, I3, r3, y3, st3, fr3⟩ := h3
   obtain ⟨rfl, hst⟩ := hg _ _ y3
   obtain ⟨hz₃, fz3⟩ := yc I3 (b := z) (by simp) hz₁
   obtain ⟨hTI₃, fTI3⟩ := yc I3 (b := TI) (by simp) hTI₁
   obtain ⟨hTO₃, fTO3⟩ := yc I3 (b := TO) (by simp) hTO₁
   have hz₃ : IsZip s3.heap z TI TO .ellipsis := hz₃
   have hTO₃ : IsPair s3.heap TO a b' := hTO₃
   have s2₃ : tn2 i s3.heap := D2.keep _ _ _ s2₁ fun b hb o e => (yc I3 (by simp [hb]) e).1
   have I3 := I3.unpinned
   refine wpAny_bind (wpAny_seqItems hTO₃ rfl ?_)
   refine wpAny_bind (wpAny_updateSeq_pair hTO₃ fun h₄ hTO₄ hs₄ => ?_)
   refine wpAny_bind (wpAny_letGo (wpAny_pure ?_))
   have I4 : Inv X pins σ H3 { s3 with heap := h₄ } := xa (t' := s3.toks) I3 hs₄ ⟨fTO3, fTO.2⟩
   have hz₄ : IsZip h₄ z TI TO .ellipsis := (hs₄.2 z Z.a2).trans hz₃
   have s2₄ : tn2 i h₄ := D2.keep _ _ _ s2₃ fun b hb o e => (hs₄.2 b (n2O b hb)).trans e
   refine wpAny_bind (wpAny_bind (wpAny_onRaise ?_))
   show wpAny _ _ (Builtin.SmallTypes.nextOf (.ref i2) >>= _) _ _ _
   have I4p := I4.pinned (fp := [z]) (fun b hb => by
    have e : b = z := by simpa using hb
    subst e; exact ⟨fz3, fz.2⟩) (fun b hb => by
    have e : b = z := by simpa using hb
    subst e; exact ⟨_, hz₄, fun v z => by cases z⟩)
   refine wpAny_bind (wpAny_mono (D2.fin X.A.in1 X rfl rfl rfl (I.ok.hd hc) i _ _ σ H3 _ I4p (fun b hb => vH.moreL (ff2 b hb) (by
    intro hm
    exact n2z b hb (by simpa using hm))) s2₄ hst) (fun _ _ z => z) fun e s5 h5 => ?_)
   obtain ⟨I5, c, o, rfl, ho, hcl⟩ := h5
   obtain ⟨hz₅, fz5⟩ := yc I5 (b := z) (by simp) hz₄
   have hz₅ : IsZip s5.heap z TI TO .ellipsis := hz₅
   have hcz : c ≠ z := fun x => by subst x; rw [hz₅] at ho; cases ho; simp at hcl
   refine wpAny_setField_rec hz₅ (by simp) fun h₆ hz₆ hs₆ => ?_
   refine wpAny_bind (wpAny_isInstance (T := "StopIteration") (b := true) ⟨o, (hs₆.2 c hcz).trans ho, hcl⟩ isSubtype_stop ?_)
   exact wpAny_pure ⟨rfl, xa (t' := s5.toks) I5.unpinned hs₆ ⟨fz5, fz.2⟩⟩
 self := fun A i s Q E st h => wpAny_pyIter_zip st.2.2.1 h
end
def SqH (b : Bool) (h : Heap) (a : Addr) (its : Array Value) : Prop := if b = true then h.IsList a its else h.IsTuple a its
def wo (b : Bool) (a : Addr) : Obj := { cls := .type (if b = true then "list_iterator" else "tuple_iterator"), data := .fields #[.ref a, .int 0 0] }
theorem SqH.push {b : Bool} {h : Heap} {a : Addr} {its : Array Value} (q : SqH b h a its) (o : Obj) : SqH b (h.push o) a its := by
 cases b with
 | true => exact Heap.IsList.push q o
 | false => exact Heap.IsTuple.push q o
section
variable {prog : Program} {w : World} {A : Around} {E : Value -> Shared -> Prop} {s : Shared}
theorem vU {b : Bool} {a : Addr} {its : Array Value} {Q : Value -> Shared -> Prop} (q : SqH b s.heap a its) (h : Q (.ref s.heap.objs.size) { s with heap := s.heap.push (wo b a) }) : wpAny (model prog w) A (pyIter (.ref a)) Q E s := by
 cases b with
 | true => exact wpAny_pyIter_list q h
 | false => exact wpAny_pyIter_tuple q h
theorem Ug (b : Bool) (a : Addr) (its : Array Value) :
  Meets (Builtin.«enumerate.__new__» ⟨[.type "enumerate", .ref a], []⟩) (fun _ R s => SqH b s.heap a its ∧
   R (.ok (.ret (.ref (s.heap.push (wo b a)).objs.size))) { s with heap := (s.heap.push (wo b a)).push { cls := .type "enumerate", data := .fields #[.none, .bool false, .ref s.heap.objs.size, rawInt 0, .none, .none] } }) :=
 .of_wp fun prog w A R s h => by
  obtain ⟨hp, g, d, tk, os⟩ := s; obtain ⟨hl, h⟩ := h
  have hsub := sub_enumerate
  have hL : SqH b (Shared.heap ⟨hp, g, d, tk, os⟩) a its := hl
  wp_walk using vU hL
  refine wpAny_stack_any fun st => wpAny_pure ?_
  split
  ·rename_i c _ _ _ _ _
   cases (c == Value.type "enumerate")
   ·wp_walk using vU hL
    exact ⟨_, rfl, h⟩
   ·wp_walk using vU hL
    exact ⟨_, rfl, h⟩
  ·wp_walk using vU hL
   exact ⟨_, rfl, h⟩
theorem Ju {b : Bool} {a : Addr} {its : Array Value} {Q : Value -> Shared -> Prop} (hL : SqH b s.heap a its)
  (h : ∀ h', IsEnum h' (s.heap.objs.size + 1) s.heap.objs.size 0 .none -> h'.get? s.heap.objs.size = some (wo b a) -> (∀ b o, s.heap.get? b = some o -> h'.get? b = some o) -> Q (.ref (s.heap.objs.size + 1)) { s with heap := h' }) :
  wpAny (model prog w) A (call (.type "enumerate") [.ref a]) Q E s := by
 refine callType_new F.called_enumerate (by decide) (F.typeCall_enumerate_1 _) (F.newCall_enumerate_1 _) (fun obj => F.args_object_init_2 obj _) F.entry_enumerate_new (Ug b a its) ⟨hL, ?_⟩
 have hz : (s.heap.push (wo b a)).objs.size = s.heap.objs.size + 1 := Heap.size_push ..
 show _ /\ _
 rw [hz]
 have he : IsEnum ((s.heap.push (wo b a)).push { cls := .type "enumerate", data := .fields #[.none, .bool false, .ref s.heap.objs.size, rawInt 0, .none, .none] }) (s.heap.objs.size + 1) s.heap.objs.size 0 .none := by
  have := Heap.get?_push_size (s.heap.push (wo b a)) (o := { cls := .type "enumerate", data := .fields #[.none, .bool false, .ref s.heap.objs.size, rawInt 0, .none, .none] }) rfl
  rw [hz] at this; exact this
 exact ⟨⟨_, he, rfl⟩, h _ he (Heap.get?_push_of_some _ (Heap.get?_push_size _ rfl)) fun b o x => Heap.get?_push_of_some _ (Heap.get?_push_of_some _ x)⟩
theorem QH (b1 b2 : Bool) (l1 l2 : Addr) (xs ys : Array Value) :
  Meets (Builtin.«zip.__new__» ⟨[.type "zip", .ref l1, .ref l2], []⟩) (fun _ R s => SqH b1 s.heap l1 xs /\ SqH b2 s.heap l2 ys ∧
   R (.ok (.ret (.ref ((((s.heap.push (wo b1 l1)).push (wo b2 l2)).push { cls := .type "tuple", data := .seq #[.ref s.heap.objs.size, .ref (s.heap.push (wo b1 l1)).objs.size] }).push { cls := .type "tuple", data := .seq #[.none, .none] }).objs.size)))
    { s with heap := ((((s.heap.push (wo b1 l1)).push (wo b2 l2)).push { cls := .type "tuple", data := .seq #[.ref s.heap.objs.size, .ref (s.heap.push (wo b1 l1)).objs.size] }).push { cls := .type "tuple", data := .seq #[.none, .none] }).push ({ cls := .type "zip", data := .fields #[.none, .bool false, .bool false, .ref ((s.heap.push (wo b1 l1)).push (wo b2 l2)).objs.size, .ref (((s.heap.push (wo b1 l1)).push (wo b2 l2)).push { cls := .type "tuple", data := .seq #[.ref s.heap.objs.size, .ref (s.heap.push (wo b1 l1)).objs.size] }).objs.size] } : Obj) }) :=
 .of_wp fun prog w A R s h => by
  obtain ⟨hp, g, d, tk, os⟩ := s; obtain ⟨hl1, hl2, h⟩ := h
  have hsub := sub_zip
  have hL1 : SqH b1 (Shared.heap ⟨hp, g, d, tk, os⟩) l1 xs := hl1
  have hL2 : SqH b2 (Shared.heap ⟨hp.push (wo b1 l1), g, d, tk, os⟩) l2 ys := SqH.push hl2 _
  wp_walk using vU hL1, vU hL2
  exact ⟨_, rfl, h⟩
theorem VC {b1 b2 : Bool} {l1 l2 : Addr} {xs ys : Array Value} {Q : Value -> Shared -> Prop} (hl1 : SqH b1 s.heap l1 xs) (hl2 : SqH b2 s.heap l2 ys)
  (h : ∀ h', IsZip h' (s.heap.objs.size + 4) (s.heap.objs.size + 2) (s.heap.objs.size + 3) .none -> IsPair h' (s.heap.objs.size + 2) (.ref s.heap.objs.size) (.ref (s.heap.objs.size + 1)) →
   IsPair h' (s.heap.objs.size + 3) .none .none -> h'.get? s.heap.objs.size = some (wo b1 l1) -> h'.get? (s.heap.objs.size + 1) = some (wo b2 l2) -> (∀ c o, s.heap.get? c = some o -> h'.get? c = some o) -> Q (.ref (s.heap.objs.size + 4)) { s with heap := h' }) :
  wpAny (model prog w) A (call (.type "zip") [.ref l1, .ref l2]) Q E s := by
 refine callType_new F.called_zip (by decide) (F.typeCall_zip_2 _ _) (F.newCall_zip_2 _ _) (fun obj => F.args_object_init_3 obj _ _) F.entry_zip_new (QH b1 b2 l1 l2 xs ys) ⟨hl1, hl2, ?_⟩
 generalize e1 : s.heap.push (wo b1 l1) = h1
 generalize e2 : h1.push (wo b2 l2) = h2
 generalize e3 : h2.push { cls := .type "tuple", data := .seq #[.ref s.heap.objs.size, .ref h1.objs.size] } = h3
 generalize e4 : h3.push { cls := .type "tuple", data := .seq #[.none, .none] } = h4
 have z1 : h1.objs.size = s.heap.objs.size + 1 := by rw [<- e1]; exact Heap.size_push ..
 have z2 : h2.objs.size = s.heap.objs.size + 2 := by rw [<- e2, Heap.size_push, z1]
 have z3 : h3.objs.size = s.heap.objs.size + 3 := by rw [<- e3, Heap.size_push, z2]
 have z4 : h4.objs.size = s.heap.objs.size + 4 := by rw [<- e4, Heap.size_push, z3]
 have k1 : ∀ c o, s.heap.get? c = some o -> h1.get? c = some o := fun c o x => by rw [<- e1]; exact Heap.get?_push_of_some _ x
 have k2 : ∀ c o, h1.get? c = some o -> h2.get? c = some o := fun c o x => by rw [<- e2]; exact Heap.get?_push_of_some _ x
 have k3 : ∀ c o, h2.get? c = some o -> h3.get? c = some o := fun c o x => by rw [<- e3]; exact Heap.get?_push_of_some _ x
 have k4 : ∀ c o, h3.get? c = some o -> h4.get? c = some o := fun c o x => by rw [<- e4]; exact Heap.get?_push_of_some _ x
 have g1 : h1.get? s.heap.objs.size = some (wo b1 l1) := by rw [<- e1]; exact Heap.get?_push_size _ rfl
 have g2 : h2.get? h1.objs.size = some (wo b2 l2) := by rw [<- e2]; exact Heap.get?_push_size _ rfl
 have g3 : IsPair h3 h2.objs.size (.ref s.heap.objs.size) (.ref h1.objs.size) := by show h3.get? h2.objs.size = _; rw [<- e3]; exact Heap.get?_push_size _ rfl
 have g4 : IsPair h4 h3.objs.size .none .none := by show h4.get? h3.objs.size = _; rw [<- e4]; exact Heap.get?_push_size _ rfl
 show _ /\ _
 rw [z2, z3, z4]
 rw [z1] at g2
 rw [z1, z2] at g3
 rw [z3] at g4
 have g5 : IsZip (h4.push { cls := .type "zip", data := .fields #[.none, .bool false, .bool false, .ref (s.heap.objs.size + 2), .ref (s.heap.objs.size + 3)] }) (s.heap.objs.size + 4) (s.heap.objs.size + 2) (s.heap.objs.size + 3) .none := by
  have := Heap.get?_push_size h4 (o := { cls := .type "zip", data := .fields #[.none, .bool false, .bool false, .ref (s.heap.objs.size + 2), .ref (s.heap.objs.size + 3)] }) rfl
  rw [z4] at this; exact this
 exact ⟨⟨_, g5, rfl⟩, h _ g5 (Heap.get?_push_of_some _ (k4 _ _ g3)) (Heap.get?_push_of_some _ g4) (Heap.get?_push_of_some _ (k4 _ _ (k3 _ _ (k2 _ _ g1)))) (Heap.get?_push_of_some _ (k4 _ _ (k3 _ _ g2))) fun c o x => Heap.get?_push_of_some _ (k4 _ _ (k3 _ _ (k2 _ _ (k1 _ _ x))))⟩
theorem kl {e it : Addr} {i : Int} {old : Value} {Q : Value -> Shared -> Prop} (he : IsEnum s.heap e it i old) (h : Q (.ref e) s) : wpAny (model prog w) A (pyIter (.ref e)) Q E s := by
 have hT : s.TypeIs (.ref e) "enumerate" := ⟨_, he, rfl⟩
 refine wpAny_pyIter_slot hT F.slot_enumerate_iter (wpAny_call_entry F.slot_enumerate_iter hT F.entry_enumerate_iter ?_ (F.args_enumerate_iter_1 _))
 show wpAny _ _ (ret (.ref e)) _ _ s
 exact wpAny_pure ⟨_, rfl, "enumerate", _, hT, F.slot_enumerate_next.lookup, h⟩
end
theorem Zq {K : W.Frag} {Hf : Hp} {a : Addr} {xs : List V} {ds : List D} (qa : SqL K Hf a xs) (la : z7 K Hf ds xs) : Walks K Hf (Itl K a) ds := fun H2 Hf2 t2 sf2 i => by
 refine ⟨fun d hd => ?_, fun hle => ⟨xs, sf2.seq (t2.seq qa), by rw [la.length]; exact hle⟩⟩
 obtain ⟨v, e3, e4⟩ := la.get hd
 have sq : SqL K H2 a xs := sf2.seq (t2.seq qa)
 refine ⟨⟨xs, v, sq, e3⟩, fun x H3 hy => ?_⟩
 obtain ⟨rfl, hy⟩ := hy
 have := hy xs sq
 rw [e3] at this
 cases this
 exact ⟨Hf2, Grows.refl sf2, e4.mono t2⟩
theorem YV {K : W.Frag} {Hf : Hp} {a : Addr} {xs : List V} {ds : List D} (qa : SqT K Hf a xs) (la : z7 K Hf ds xs) : Walks K Hf (Itt K a) ds := fun H2 Hf2 t2 sf2 i => by
 refine ⟨fun d hd => ?_, fun hle => ⟨xs, ux sf2 (ux t2 qa), by rw [la.length]; exact hle⟩⟩
 obtain ⟨v, e3, e4⟩ := la.get hd
 have sq : SqT K H2 a xs := ux sf2 (ux t2 qa)
 refine ⟨⟨xs, v, sq, e3⟩, fun x H3 hy => ?_⟩
 obtain ⟨rfl, hy⟩ := hy
 have := hy xs sq
 rw [e3] at this
 cases this
 exact ⟨Hf2, Grows.refl sf2, e4.mono t2⟩
theorem Grows.lay {H Hf : Hp} {p : Addr} {o : HO} (s : yp Hf H) (hp : H p = none) : Grows H Hf (upd H p o) (upd Hf p o) := by
 have hfp : Hf p = none := s.free hp
 refine ⟨zY hp, zY hfp, fun b u e => ?_, fun b u e => ?_⟩
 ·by_cases hb : b = p
  ·subst hb; rw [zz] at e ⊢; exact e
  ·rw [zw hb] at e ⊢; exact s b u e
 ·by_cases hb : b = p
  ·subst hb; exact .inr (.inl hp)
  ·rw [zw hb] at e; exact .inl e
def x4 (ds : List D) : List D := ds.zipIdx.map fun p => .tup [.int (p.2 : Int), p.1]
theorem XF {ds : List D} {i : Nat} {d : D} (h : (x4 ds)[i]? = some d) : ∃ x, ds[i]? = some x /\ d = .tup [.int i, x] := by
 unfold x4 at h
 rw [g0w, List.getElem?_zipIdx] at h
 cases e : ds[i]? with
 | none => rw [e] at h; cases h
 | some x => rw [e] at h; simp at h; exact ⟨x, rfl, h.symm⟩
theorem XE (ds : List D) : (x4 ds).length = ds.length := by simp [x4]
theorem Zr {K : W.Frag} {Hf : Hp} {J : It} {ds : List D} (wk : Walks K Hf J ds) : Walks K Hf (ItE J) (x4 ds) := fun H2 Hf2 t2 sf2 i => by
 obtain ⟨w1, w2⟩ := wk H2 Hf2 t2 sf2 i
 refine ⟨fun d hd => ?_, fun hle => w2 (by rw [XE] at hle; exact hle)⟩
 obtain ⟨x, hx, rfl⟩ := XF hd
 obtain ⟨go, yl⟩ := w1 x hx
 refine ⟨go, fun v H3 hy => ?_⟩
 obtain ⟨y, H1, p, hy, hp, rfl, rfl⟩ := hy
 obtain ⟨Hf1, gr, hh⟩ := yl y H1 hy
 have g2 := Grows.lay (o := .tup [.int i, y]) gr.fh hp
 exact ⟨_, gr.trans g2, Has.tup_iff.mpr ⟨p, _, rfl, SqT.of zz, .cons (Has.int_iff.mpr rfl) (.cons (hh.mono g2.f) .nil)⟩⟩
def WR (xs ys : List D) : List D := (xs.zip ys).map fun p => .tup [p.1, p.2]
theorem WQ {xs ys : List D} {i : Nat} {d : D} (h : (WR xs ys)[i]? = some d) : ∃ x y, xs[i]? = some x /\ ys[i]? = some y /\ d = .tup [x, y] := by
 unfold WR at h
 rw [g0w] at h
 cases e : (xs.zip ys)[i]? with
 | none => rw [e] at h; cases h
 | some p =>
  rw [e] at h
  simp at h
  obtain ⟨h1, h2⟩ := List.getElem?_zip_eq_some.mp e
  exact ⟨p.1, p.2, h1, h2, h.symm⟩
theorem j6 (xs ys : List D) : (WR xs ys).length = min xs.length ys.length := by simp [WR]
theorem YU {K : W.Frag} {Hf : Hp} {J1 J2 : It} {xs ys : List D} (hq : ∀ i H x H', J1.yld i H x H' -> H' = H) (w1 : Walks K Hf J1 xs) (w2 : Walks K Hf J2 ys) : Walks K Hf (ItZ J1 J2) (WR xs ys) := fun H2 Hf2 t2 sf2 i => by
 obtain ⟨a1, a2⟩ := w1 H2 Hf2 t2 sf2 i
 obtain ⟨b1, b2⟩ := w2 H2 Hf2 t2 sf2 i
 refine ⟨fun d hd => ?_, fun hle => ?_⟩
 ·obtain ⟨x, y, hx, hy, rfl⟩ := WQ hd
  obtain ⟨go1, yl1⟩ := a1 x hx
  obtain ⟨go2, yl2⟩ := b1 y hy
  refine ⟨⟨go1, fun v H1 q => by rw [hq _ _ _ _ q]; exact go2⟩, fun v H3 q => ?_⟩
  obtain ⟨y1, y2, H1, H2', p, q1, q2, hp, rfl, rfl⟩ := q
  have e1 := hq _ _ _ _ q1
  subst e1
  obtain ⟨Hf1, gr1, h1⟩ := yl1 y1 _ q1
  obtain ⟨Hf3, gr3, h3⟩ := (w2 H1 Hf1 (t2.trans gr1.f) gr1.fh i).1 y hy |>.2 y2 _ q2
  have g2 := Grows.lay (o := .tup [y1, y2]) gr3.fh hp
  exact ⟨_, (gr1.trans gr3).trans g2, Has.tup_iff.mpr ⟨p, _, rfl, SqT.of zz, .cons ((h1.mono gr3.f).mono g2.f) (.cons (h3.mono g2.f) .nil)⟩⟩
 ·rw [j6] at hle
  by_cases h : xs.length <= i
  ·exact .inl (a2 h)
  ·have hx : xs[i]? = some xs[i] := g0x (by omega)
   exact .inr ⟨(a1 _ hx).1, fun v H1 q => ⟨hq _ _ _ _ q, b2 (by omega)⟩⟩
section
variable {X : Cx} {e e1 e2 : Expr} {f f1 f2 : FE} {pos : Pos} {elts : List Expr} {kx : Nat} {tp : Pos}
theorem kK {pins : List (Addr × Obj)} {σ : St} {H : Hp} {s : Shared} (I : Inv X pins σ H s) {b : Addr} (hb : s.heap.objs.size <= b) : vH X pins H b := I.fpOk hb (I.hok.fresh hb)
def ke : D -> Option (List D)
 | .lst ds => some ds
 | .tup ds => some ds
 | _ => none
def yj (f : FE) : FA := fun ρ => (f ρ).bind ke
def qI (f : FE) : FA := fun ρ => (yj f ρ).bind fun ds => some (x4 ds)
def ZK (f g : FE) : FA := fun ρ => (yj f ρ).bind fun xs => (yj g ρ).bind fun ys => some (WR xs ys)
theorem Y2 {pins : List (Addr × Obj)} {σ : St} {H Hf : Hp} {s : Shared} {d : D} {ds : List D} {v : V} {u : Value} (I : Inv X pins σ H s) (sf : yp Hf H) (h : Has X.K Hf d v) (hd : ke d = some ds) (r : xK v u) :
  ∃ (b : Bool) (a : Addr) (its : Array Value) (J : It), u = .ref a /\ SqH b s.heap a its /\ Walks X.K Hf J ds /\ (∀ i H x H', J.yld i H x H' -> H' = H) ∧
   ∀ it, ∃ tn : Nat -> Heap -> Prop, Draw X.prog X.w X.K J [it] it tn /\ ∀ h : Heap, h.get? it = some (wo b a) -> tn 0 h := by
 cases d with
 | lst ds' =>
  cases hd
  obtain ⟨a, xs, rfl, qa, la⟩ := Has.lst_iff.mp h
  cases r
  obtain ⟨its, _, p, _⟩ := I.list (sf.seq qa)
  exact ⟨true, a, _, _, rfl, p.isList, Zq qa la, fun _ _ _ _ q => q.1, fun it => ⟨_, Jj a it, fun h e => ⟨_, e, rfl, rfl⟩⟩⟩
 | tup ds' =>
  cases hd
  obtain ⟨a, xs, rfl, qa, la⟩ := Has.tup_iff.mp h
  cases r
  obtain ⟨its, _, p, _⟩ := I.tuple (ux sf qa)
  exact ⟨false, a, _, _, rfl, p, YV qa la, fun _ _ _ _ q => q.1, fun it => ⟨_, Ur a it, fun h e => ⟨_, e, rfl, rfl⟩⟩⟩
 | _ => cases hd
theorem Yy {p : Pos} (hg : Gl X "enumerate") (hm : X.mg "enumerate" = none) (he : DE X e f) (hs : starEach [e] X.env = [(false, eval e X.env)] := by rfl) : DI X (.Tuple elts kx tp) (.Call (.Name "enumerate" p) [e] [] pos) (qI f) := by
 intro pins s σ H R I h
 obtain ⟨H₀, Hf₀, ρ, Hf, ds', R0, q, k⟩ := h
 obtain ⟨ds, q1, q2⟩ := yz q
 cases q2
 obtain ⟨d, q3, q4⟩ := zP q1
 refine Call_ (vV I hg hm boot_enumerate (PyProof.Rows.callWith_type1 (thn ((zM he xb hs) pos pins s σ H (fun vs H1 => ∃ v Hf1, vs = [v] /\ Rep X.K H₀ Hf₀ σ ρ H1 Hf1 /\ yp H H1 /\ yp Hf Hf1 /\ Has X.K Hf1 d v) I ⟨H₀, Hf₀, ρ, Hf, d, R0, q3, fun v H1 Hf1 R1 s1 t1 h1 => ⟨v, Hf1, rfl, R1, s1, t1, h1⟩⟩) fun us s1 ⟨vs, H1, I1, r1, q1⟩ => ?_) hs rfl))
 obtain ⟨v, Hf1, rfl, R1, s1', t1, h1⟩ := q1
 cases r1 with
 | cons r rr =>
  cases rr
  obtain ⟨b, a, its, J, rfl, sq, wk, _, dr⟩ := Y2 I1 R1.sf h1 q4 r
  refine Ju sq fun h' he' hi' hk => ?_
  have I2 : Inv X pins σ H1 { s1 with heap := h' } := I1.kept (t' := s1.toks) hk
  obtain ⟨tn, D, st⟩ := dr s1.heap.objs.size
  refine kl he' ⟨s1.heap.objs.size + 1, [s1.heap.objs.size + 1, s1.heap.objs.size], _, _, H1, rfl, I2, YY (elts := elts) (kx := kx) (tp := tp) (e := s1.heap.objs.size + 1) D (fun b hb => by
   have e : b = s1.heap.objs.size := by simpa using hb
   rw [e]; exact g1b (g2m _)), ⟨st _ hi', _, he'⟩, fun b hb => ?_, k _ _ _ R1 s1' t1 (Zr wk)⟩
  rcases g0m.mp hb with rfl | hb
  ·exact kK I1 (Nat.le_succ _)
  ·have e : b = s1.heap.objs.size := by simpa using hb
   rw [e]; exact kK I1 (g0o _)
theorem C8 {p : Pos} (hg : Gl X "zip") (hm : X.mg "zip" = none) (h1 : DE X e1 f1) (h2 : DE X e2 f2) (hs : starEach [e1, e2] X.env = [(false, eval e1 X.env), (false, eval e2 X.env)] := by rfl) (hs2 : starEach [e2] X.env = [(false, eval e2 X.env)] := by rfl) :
  DI X (.Tuple elts kx tp) (.Call (.Name "zip" p) [e1, e2] [] pos) (ZK f1 f2) := by
 intro pins s σ H R I h
 obtain ⟨H₀, Hf₀, ρ, Hf, ds', R0, q, k⟩ := h
 obtain ⟨xs, q1, q2⟩ := yz q
 obtain ⟨ys, q5, q6⟩ := yz q2
 cases q6
 obtain ⟨d1, q3, q4⟩ := zP q1
 obtain ⟨d2, q7, q8⟩ := zP q5
 refine Call_ (vV I hg hm boot_zip (PyProof.Rows.callWith_type1 (thn ((zM h1 (zM h2 xb hs2) (by rw [hs, hs2])) pos pins s σ H (fun vs H1 => ∃ v v' Hf1, vs = [v, v'] /\ Rep X.K H₀ Hf₀ σ ρ H1 Hf1 /\ yp H H1 /\ yp Hf Hf1 /\ Has X.K Hf1 d1 v /\ Has X.K Hf1 d2 v') I
  ⟨H₀, Hf₀, ρ, Hf, d1, R0, q3, fun v H1 Hf1 R1 s1 t1 h1 => ⟨H₀, Hf₀, ρ, Hf1, d2, R1, q7, fun v' H2 Hf2 R2 s2 t2 h2 => ⟨v, v', Hf2, rfl, R2, s1.trans s2, t1.trans t2, h1.mono t2, h2⟩⟩⟩) fun us s1 ⟨vs, H1, I1, r1, q1⟩ => ?_) (by rw [hs, hs2]) (by rw [hs2]; rfl)))
 obtain ⟨v, v', Hf1, rfl, R1, s1', t1, hv, hv'⟩ := q1
 cases r1 with
 | cons r rr =>
  cases rr with
  | cons r' rr =>
   cases rr
   obtain ⟨b, a, its, J, rfl, sq, wk, hq, dr⟩ := Y2 I1 R1.sf hv q4 r
   obtain ⟨b', a', its', J', rfl, sq', wk', hq', dr'⟩ := Y2 I1 R1.sf hv' q8 r'
   refine VC sq sq' fun h' hz hTI hTO hi hi' hk => ?_
   have I2 : Inv X pins σ H1 { s1 with heap := h' } := I1.kept (t' := s1.toks) hk
   obtain ⟨tn, D, st⟩ := dr s1.heap.objs.size
   obtain ⟨tn', D', st'⟩ := dr' (s1.heap.objs.size + 1)
   have mem : ∀ b : Addr, b ∈ [s1.heap.objs.size] ++ [s1.heap.objs.size + 1] -> b = s1.heap.objs.size \/ b = s1.heap.objs.size + 1 := fun b hb => by simpa using hb
   have Z : ZApart (s1.heap.objs.size + 4) (s1.heap.objs.size + 2) (s1.heap.objs.size + 3) [s1.heap.objs.size] [s1.heap.objs.size + 1] :=
    ⟨by show (_ : Nat) ≠ _; omega, by show (_ : Nat) ≠ _; omega, by show (_ : Nat) ≠ _; omega, fun b hb => by rcases mem b hb with e | e <;> (rw [e]; show (_ : Nat) ≠ _; omega), fun b hb => by rcases mem b hb with e | e <;> (rw [e]; show (_ : Nat) ≠ _; omega),
     fun b hb => by rcases mem b hb with e | e <;> (rw [e]; show (_ : Nat) ≠ _; omega), fun b hb hb' => by
      have e1 : b = s1.heap.objs.size := by simpa using hb
      have e2 : b = s1.heap.objs.size + 1 := by simpa using hb'
      rw [e1] at e2
      exact absurd e2 (g1b (g2m _))⟩
   refine wpAny_pyIter_zip hz ⟨_, _, _, _, H1, rfl, I2, JN (elts := elts) (kx := kx) (tp := tp) D D' Z, ⟨st _ hi, st' _ hi', hz, hTI, _, _, hTO⟩, fun b hb => ?_, k _ _ _ R1 s1' t1 (YU hq wk wk')⟩
   have hle : s1.heap.objs.size <= b := by
    have : b = s1.heap.objs.size + 4 \/ b = s1.heap.objs.size + 2 \/ b = s1.heap.objs.size + 3 \/ b = s1.heap.objs.size \/ b = s1.heap.objs.size + 1 := by simpa using hb
    rcases this with e | e | e | e | e <;> (rw [e]; show (_ : Nat) <= _; omega)
   exact kK I1 hle
end
section
variable {prog : Program} {w : World} {A : Around} {E : Value -> Shared -> Prop} {s : Shared}
theorem jj {t sl : Addr} {items : Array Value} {vl vu : Value} {lo hi : Option Int} {Q : Value -> Shared -> Prop} (ht : IsTup s.heap t items) (hs : s.heap.IsSliceOf sl vl vu .none) (pl : IsPart vl lo) (pu : IsPart vu hi)
  (hw : HT.sIx items.size 0 lo = 0 /\ HT.sIx items.size items.size hi = items.size) (h : Q (.ref t) s) : wpAny (model prog w) A (getItem (.ref t) (.ref sl)) Q E s := by
 obtain ⟨os, hos, hcs, hds⟩ := id hs
 have hTs : s.TypeIs (.ref sl) "slice" := ⟨os, hos, hcs⟩
 unfold getItem
 try with_reducible refine wpAny_holding ?_
 first | refine wpAny_bind (wpAny_pure ?_) | skip
 refine wpAny_bind (wpAny_sequenceKey ht.typeIs (by decide) ?_)
 refine wpAny_bind (wpAny_callSpecial?_slot (name := Str.ofString "__getitem__") ht.typeIs PyProof.Rows.slot_tuple_getitem
  (wpAny_call_entry PyProof.Rows.slot_tuple_getitem ht.typeIs entry_tuple_getitem ?_ (args_tuple_getitem _ _)))
 show wpAny _ _ (Builtin.Tuple.tupleItemsOf (.ref t) >>= _) _ _ s
 refine wpAny_bind (tupleItemsOf_ ht ?_)
 refine wpAny_bind (wpAny_typeOf hTs ?_)
 rw [if_pos (by decide)]
 refine wpAny_bind (HT.sliceApplied_gen hs pl pu ?_)
 rw [hw.1, hw.2]
 show wpAny _ _ (if (((0 : Nat) : Int) == 0 && (1 : Int) == 1 && (items.size - 0) == items.size) = true then _ else _) _ _ s
 rw [if_pos (by simp)]
 show wpAny _ _ (Builtin.Tuple.tupleIsExact (.ref t) >>= _) _ _ s
 unfold Builtin.Tuple.tupleIsExact
 refine wpAny_bind (wpAny_bind (wpAny_typeOf ht.typeIs (wpAny_pure ?_)))
 rw [if_pos (by decide)]
 refine wpAny_bind (wpAny_rule ?_)
 exact wpAny_pure ⟨_, rfl, wpAny_pure h⟩
theorem Uw (n : Nat) : Builtin.Slice.sliceAdjust none none (-1) (n : Int) = ((n : Int) - 1, -1) := by
 unfold Builtin.Slice.sliceAdjust
 simp
theorem V3 (n : Nat) : Builtin.Slice.slicePlaces ((n : Int) - 1) (-1) (-1) = n := by
 unfold Builtin.Slice.slicePlaces
 have h1 : ¬ ((-1 : Int) > 0) := by omega
 simp only [h1, if_false]
 split <;> simp <;> omega
theorem jP {sl : Addr} {t : Tok} {n : Nat} {Q : Int × Int × Nat -> Shared -> Prop} (hs : s.heap.IsSliceOf sl .none .none (.int (-1) t)) (h : Q ((n : Int) - 1, -1, n) s) : wpAny (model prog w) A (Builtin.Slice.sliceApplied (.ref sl) (pure (n : Int))) Q E s := by
 obtain ⟨os, hos, hcs, hds⟩ := id hs
 unfold Builtin.Slice.sliceApplied Builtin.Slice.sliceFields
 refine wpAny_bind (wpAny_bind (wpAny_field hos hds (x := .none) rfl (wpAny_bind (wpAny_field hos hds (x := .none) rfl (wpAny_bind (wpAny_field hos hds (x := .int (-1) t) rfl (wpAny_pure ?_)))))))
 refine wpAny_bind (slicePart_int ?_)
 show wpAny _ _ (if ((-1 : Int) == 0) = true then _ else _) _ _ s
 rw [if_neg (by decide)]
 refine wpAny_bind (slicePart_none (wpAny_bind (slicePart_none (wpAny_bind (wpAny_pure ?_)))))
 show wpAny _ _ (match Builtin.Slice.sliceAdjust none none (-1) (n : Int) with | (lo, hi) => pure (lo, (-1 : Int), Builtin.Slice.slicePlaces lo hi (-1))) _ _ s
 rw [Uw n]
 show wpAny _ _ (pure ((n : Int) - 1, (-1 : Int), Builtin.Slice.slicePlaces ((n : Int) - 1) (-1) (-1))) _ _ s
 rw [V3]
 exact wpAny_pure h
theorem Vd (xs : Array Value) : ((g1f xs.size).filterMap fun (m : Nat) => xs[(((xs.size : Nat) : Int) - 1 + (m : Int) * (-1)).toNat]?).toArray = xs.toList.reverse.toArray := by
 have e : ((g1f xs.size).filterMap fun (m : Nat) => xs[(((xs.size : Nat) : Int) - 1 + (m : Int) * (-1)).toNat]?) = xs.toList.reverse := by
  apply g2o
  intro i
  have f : (g1f xs.size).filterMap (fun (m : Nat) => xs[(((xs.size : Nat) : Int) - 1 + (m : Int) * (-1)).toNat]?) = (g1f xs.size).map (fun (m : Nat) => xs.toList.reverse.getD m .none) := by
   have gen : ∀ l : List Nat, (∀ m ∈ l, m < xs.size) -> l.filterMap (fun (m : Nat) => xs[(((xs.size : Nat) : Int) - 1 + (m : Int) * (-1)).toNat]?) = l.map (fun (m : Nat) => xs.toList.reverse.getD m .none) := by
    intro l
    induction l with
    | nil => intro _; rfl
    | cons m l ih =>
     intro hl
     have hm' : m < xs.size := hl m g0s
     have : (((xs.size : Nat) : Int) - 1 + (m : Int) * (-1)).toNat = xs.size - 1 - m := by omega
     have h2 : xs.size - 1 - m < xs.size := by omega
     rw [g3e, this, Array.getElem?_eq_getElem h2, g0j, ih fun k hk => hl k (g0n _ hk)]
     simp [g0l, g2v, hm']
   exact gen _ fun m hm => by simpa using hm
  rw [f, g0w]
  by_cases hi : i < xs.size
  ·rw [List.getElem?_range hi]
   simp [g0l, g2v, hi]
  ·rw [g1e (by simpa using hi), g1e (by simp; omega)]
   rfl
 rw [e]
theorem ji {t sl : Addr} {tk : Tok} {items : Array Value} {Q : Value -> Shared -> Prop} (ht : IsTup s.heap t items) (hs : s.heap.IsSliceOf sl .none .none (.int (-1) tk))
  (h : Q (.ref s.heap.objs.size) { s with heap := s.heap.push { cls := .type "tuple", data := .seq items.toList.reverse.toArray } }) (hsz : items.size <= sizeLine) : wpAny (model prog w) A (getItem (.ref t) (.ref sl)) Q E s := by
 have hrev : sizeOk (.seq items.toList.reverse.toArray) := by
  show items.toList.reverse.toArray.size <= sizeLine
  simpa using hsz
 obtain ⟨os, hos, hcs, hds⟩ := id hs
 have hTs : s.TypeIs (.ref sl) "slice" := ⟨os, hos, hcs⟩
 unfold getItem
 try with_reducible refine wpAny_holding ?_
 first | refine wpAny_bind (wpAny_pure ?_) | skip
 refine wpAny_bind (wpAny_sequenceKey ht.typeIs (by decide) ?_)
 refine wpAny_bind (wpAny_callSpecial?_slot (name := Str.ofString "__getitem__") ht.typeIs PyProof.Rows.slot_tuple_getitem
  (wpAny_call_entry PyProof.Rows.slot_tuple_getitem ht.typeIs entry_tuple_getitem ?_ (args_tuple_getitem _ _)))
 show wpAny _ _ (Builtin.Tuple.tupleItemsOf (.ref t) >>= _) _ _ s
 refine wpAny_bind (tupleItemsOf_ ht ?_)
 refine wpAny_bind (wpAny_typeOf hTs ?_)
 rw [if_pos (by decide)]
 refine wpAny_bind (jP hs ?_)
 show wpAny _ _ (if ((((items.size : Nat) : Int) - 1) == 0 && (-1 : Int) == 1 && items.size == items.size) = true then _ else _) _ _ s
 rw [if_neg (by simp), Vd]
 first
  | exact wpAny_bind (m := Builtin.Tuple.tupleExact _) (wpAny_newObj_type (wpAny_pure ⟨_, rfl, wpAny_pure h⟩) hrev)
  | exact wpAny_bind (m := Builtin.Tuple.tupleExact _) (wpAny_newObj_type (wpAny_bind (wpAny_pure (wpAny_pure ⟨_, rfl, wpAny_pure h⟩))) hrev)
  | exact wpAny_bind (wpAny_bind (m := Builtin.Tuple.tupleExact _) (wpAny_newObj_type (wpAny_pure (wpAny_pure ⟨_, rfl, wpAny_pure h⟩)) hrev))
  | exact wpAny_bind (wpAny_bind (m := Builtin.Tuple.tupleExact _) (wpAny_newObj_type (wpAny_pure ⟨_, rfl, wpAny_pure h⟩) hrev))
open PySem.AutoSeq1 (wpAny_loadPart') in
theorem Wa (l b : Addr) (items2 : Array Value) (n n2 : Nat) (dd dd2 : Option Addr) (sl sl2 : Array (Option Value)) :
  Meets (Builtin.«tuple.__add__» ⟨[.ref l, .ref b], []⟩) (fun _ R s => s.heap.get? l = some { cls := .type "tuple", dict := dd, data := .seq #[] n, slots := sl } /\ s.heap.get? b = some { cls := .type "tuple", dict := dd2, data := .seq items2 n2, slots := sl2 } /\ R (.ok (.ret (.ref b))) s) :=
 .of_wp fun prog w A R s h => by
  obtain ⟨hp, g, d, tk, os⟩ := s; obtain ⟨hl, hb, h⟩ := h
  have f2 := AutoSeq1.sub_tuple_tuple
  wp_walk using wpAny_loadPart' hl, wpAny_loadPart' hb
  exact ⟨_, rfl, h⟩
theorem K4 {t b : Addr} {ws : List Value} {Q : Value -> Shared -> Prop} (ht : IsTup s.heap t #[]) (hb : IsTup s.heap b ws.toArray) (h : Q (.ref b) s) : wpAny (model prog w) A (binaryOp .Add (.ref t) (.ref b)) Q E s := by
 obtain ⟨⟨cls, dd, data, sl⟩, ho, hc, n, hd⟩ := id ht
 obtain ⟨⟨cls2, dd2, data2, sl2⟩, ho2, hc2, n2, hd2⟩ := id hb
 simp only at hc hd hc2 hd2
 subst hc hd hc2 hd2
 exact concat_meets ⟨_, ho, rfl⟩ ⟨_, ho2, rfl⟩ noFill_tuple_add seq_tuple_add PySem.F.slot_tuple_add PySem.F.entry_tuple_add (PySem.F.args_tuple_add_2 _ _) (Wa t b ws.toArray n n2 dd dd2 sl sl2) ⟨ho, ho2, h⟩
end
section
variable {X : Cx}
def Gc (K : W.Frag) : R2 := fun x y H Q => ∃ a b xs ys, x = .ref a /\ y = .ref b /\ SqT K H a xs /\ SqT K H b ys /\ xs.length + ys.length <= sizeLine ∧
 (xs = [] -> Q (.ref b) H) /\ (xs ≠ [] -> ys = [] -> Q (.ref a) H) /\ (xs ≠ [] -> ys ≠ [] -> ∀ p, H p = none -> Q (.ref p) (upd H p (.tup (xs ++ ys))))
theorem Ke : OpR X (binaryOp .Add) (Gc X.K) := by
 intro pins s σ H x y v u Q I rx ry h
 obtain ⟨a, b, xs, ys, rfl, rfl, ha, hb, hz, q0, q1, q2⟩ := h
 by_cases hx : xs = []
 ·subst hx
  cases rx
  cases ry
  obtain ⟨its, r1, p1, _⟩ := I.tuple ha
  obtain ⟨its2, r2, p2, _⟩ := I.tuple hb
  cases r1
  exact K4 p1 p2 ⟨.ref b, H, I, rfl, q0 rfl⟩
 ·exact Ho pins s σ H _ _ v u Q I rx ry ⟨a, b, xs, ys, rfl, rfl, ha, hb, hx, hz, q1 hx, q2 hx⟩
def Ge (K : W.Frag) : R2 := fun x y H Q => ∃ a b xs ys, x = .ref a /\ y = .ref b /\ SqL K H a xs /\ SqL K H b ys /\ xs.length + ys.length <= sizeLine /\ ∀ p, H p = none -> Q (.ref p) (upd H p (.lst (xs ++ ys)))
theorem Kf : OpR X (binaryOp .Add) (Ge X.K) := by
 intro pins s σ H x y v u Q I rx ry h
 obtain ⟨a, b, xs, ys, rfl, rfl, ha, hb, hz, q⟩ := h
 cases rx
 cases ry
 obtain ⟨its, r1, p1, _⟩ := I.list ha
 obtain ⟨its2, r2, p2, _⟩ := I.list hb
 obtain ⟨⟨cls, dd, data, sl⟩, ho, hc, n, hd⟩ := id p1.isList
 obtain ⟨⟨cls2, dd2, data2, sl2⟩, ho2, hc2, n2, hd2⟩ := id p2.isList
 simp only at hc hd hc2 hd2
 subst hc hd hc2 hd2
 have e : its.toArray ++ its2.toArray = (its ++ its2).toArray := by simp
 have hsz : its.toArray.size + its2.toArray.size <= sizeLine := by
  rw [g0u, g0u, <- r1.length, <- r2.length]; exact hz
 refine concat_meets ⟨_, ho, rfl⟩ ⟨_, ho2, rfl⟩ noFill_list_add seq_list_add PySem.F.slot_list_add PySem.F.entry_list_add (PySem.F.args_list_add_2 _ _) (list_addW a b its.toArray its2.toArray n n2 dd dd2 sl sl2 hsz) ⟨ho, ho2, ?_⟩
 rw [e]
 exact ⟨.ref _, _, I.lnew (t' := s.toks) (r1.append r2) (by rw [g0f]; exact hz), rfl, q _ I.fresh⟩
def Cj (K : W.Frag) : R2 := fun x y H Q => rI0 (fun i j => .int (i + j)) x y H Q \/ (∃ i j, x = .str i /\ y = .str j /\ i.length + j.length <= sizeLine /\ Q (.str (i ++ j)) H) \/ Gc K x y H Q \/ Ge K x y H Q
theorem Hr : OpR X (binaryOp .Add) (Cj X.K) := CB.or (V7.or (Ke.or Kf))
def yJ : D -> D -> Option D
 | .int i, .int j => some (.int (i + j))
 | .str x, .str y => if x.length + y.length <= sizeLine then some (.str (x ++ y)) else none
 | .tup xs, .tup ys => if xs.length + ys.length <= sizeLine then some (.tup (xs ++ ys)) else none
 | .lst xs, .lst ys => if xs.length + ys.length <= sizeLine then some (.lst (xs ++ ys)) else none
 | _, _ => none
theorem z7.nil_of {K : W.Frag} {H : Hp} {ds : List D} {xs : List V} (h : z7 K H ds xs) : xs = [] ↔ ds = [] := by
 have := h.length
 constructor
 ·intro e; subst e; exact g2r this.symm
 ·intro e; subst e; exact g2r this
theorem js.tupF {K : W.Frag} {Hf : Hp} {σ : St} {ρ : Rho} {ds : List D} {v : V} (h : js K Hf σ ρ (.tup ds) v) : Has K Hf (.tup ds) v := by
 rcases h with h | ⟨_, _, e, _⟩
 ·exact h
 ·cases e
theorem Ki : OpD X (Cj X.K) yJ := by
 intro σ ρ H₀ Hf₀ H Hf x y dx dy d Q R hx hy hφ k
 unfold yJ at hφ
 split at hφ
 ·cases hφ
  exact .inl ⟨_, _, hx.int, hy.int, k _ _ _ R zv zv (Has.int_iff.mpr rfl)⟩
 ·split at hφ
  ·cases hφ
   exact .inr (.inl ⟨_, _, hx.str, hy.str, by assumption, k _ _ _ R zv zv (Has.str_iff.mpr rfl)⟩)
  ·cases hφ
 ·split at hφ
  ·cases hφ
   rename_i xs ys hz
   obtain ⟨a, vs, rfl, qa, la⟩ := hx.tup R
   obtain ⟨b, ws, rfl, qb, lb⟩ := hy.tup R
   refine .inr (.inr (.inl ⟨a, b, vs, ws, rfl, rfl, qa, qb, by rw [la.length, lb.length]; exact hz, fun e => ?_, fun _ e => ?_, fun _ _ p hp => ?_⟩))
   ·cases la.nil_of.mp e
    exact k _ _ _ R zv zv (by rw [g0p]; exact hy.tupF)
   ·cases lb.nil_of.mp e
    exact k _ _ _ R zv zv (by rw [g0t]; exact hx.tupF)
   ·have sm := zY (o := .tup (vs ++ ws)) (R.sf.free hp)
    exact k _ _ _ (R.lay hp) (zY hp) sm (Has.tup_iff.mpr ⟨p, _, rfl, SqT.of zz, (la.append lb).mono sm⟩)
  ·cases hφ
 ·split at hφ
  ·cases hφ
   rename_i xs ys hz
   obtain ⟨a, vs, rfl, qa, la⟩ := hx.lst R
   obtain ⟨b, ws, rfl, qb, lb⟩ := hy.lst R
   refine .inr (.inr (.inr ⟨a, b, vs, ws, rfl, rfl, qa, qb, by rw [la.length, lb.length]; exact hz, fun p hp => ?_⟩))
   have sm := zY (o := .lst (vs ++ ws)) (R.sf.free hp)
   exact k _ _ _ (R.lay hp) (zY hp) sm (Has.lst_iff.mpr ⟨p, _, rfl, SqL.of zz, (la.append lb).mono sm⟩)
  ·cases hφ
 ·cases hφ
variable {a b c e : Expr} {f g h : FE} {pos p2 : Pos}
theorem zO (ha : DR X a f) (hb : DR X b g) : DE X (.BinOp a .Add b pos) (zc yJ f g) := Bi Hr Ki ha hb
abbrev FP := Rho -> Option (Option Int)
def noP : FP := fun _ => some none
def exP (f : FE) : FP := fun ρ => (f ρ).bind fun | .int i => some (some i) | _ => none
def tP (K : W.Frag) (f : FP) : TO := fun σ H Q => ∃ H₀ Hf₀ ρ Hf o, Rep K H₀ Hf₀ σ ρ H Hf /\ f ρ = some o /\ ∀ H' Hf', Rep K H₀ Hf₀ σ ρ H' Hf' -> yp H H' -> yp Hf Hf' -> Q o H'
def DP (X : Cx) (e : Option Expr) (f : FP) : Prop := PO X e (tP X.K f)
theorem Gk {e : Option Expr} {t t' : TO} (h : PO X e t) (i : ∀ σ H Q, t' σ H Q -> t σ H Q) : PO X e t' := fun pins s σ H Q I hw => h pins s σ H Q I (i _ _ _ hw)
theorem uA : DP X none noP := Gk Qe fun σ H Q ⟨H₀, Hf₀, ρ, Hf, d, R, q, k⟩ => by cases q; exact k _ _ R zv zv
theorem wu (h : DR X e f) : DP X (some e) (exP f) := Gk (Qd h) fun σ H Q ⟨H₀, Hf₀, ρ, Hf, d, R, q, k⟩ => by
 obtain ⟨x, e1, e2⟩ := zP q
 cases x <;> try cases e2
 exact ⟨H₀, Hf₀, ρ, Hf, _, R, e1, fun v H1 Hf1 R1 s1 t1 h1 => ⟨_, h1.int, k _ _ R1 s1 t1⟩⟩
def qS {α : Type} (xs : List α) (lo hi : Option Int) : List α := (xs.drop (HT.sIx xs.length 0 lo)).take (HT.sIx xs.length xs.length hi - HT.sIx xs.length 0 lo)
theorem z7.cut {K : W.Frag} {H : Hp} {ds : List D} {xs : List V} (h : z7 K H ds xs) (lo hi : Option Int) : z7 K H (qS ds lo hi) (Ut xs lo hi) := by
 unfold qS Ut
 rw [h.length]
 exact (h.drop _).take _
def Cg (K : W.Frag) : V -> Option Int -> Option Int -> Hp -> VK -> Prop := fun x lo hi H Q => ∃ a xs, x = .ref a /\ SqT K H a xs ∧
 ((HT.sIx xs.length 0 lo = 0 /\ HT.sIx xs.length xs.length hi = xs.length) -> Q (.ref a) H) /\ (¬ (HT.sIx xs.length 0 lo = 0 /\ HT.sIx xs.length xs.length hi = xs.length) -> ∀ p, H p = none -> Q (.ref p) (upd H p (.tup (Ut xs lo hi))))
theorem UT : SlR X (Cg X.K) := by
 intro pins s σ H x v vl vu lo hi sl Q I rx hs pl pu h
 obtain ⟨a, xs, rfl, hx, q1, q2⟩ := h
 by_cases hw : HT.sIx xs.length 0 lo = 0 /\ HT.sIx xs.length xs.length hi = xs.length
 ·cases rx
  obtain ⟨its, r, ht, hz⟩ := I.tuple hx
  have hlen : its.toArray.size = xs.length := by rw [g0u]; exact r.length.symm
  refine ⟨"tuple", _, PyProof.Rows.slot_tuple_getitem.lookup, ht.typeIs, ?_⟩
  exact jj ht hs pl pu (by rw [hlen]; exact hw) ⟨.ref a, H, I, rfl, q1 hw⟩
 ·exact BO pins s σ H _ v vl vu lo hi sl Q I rx hs pl pu ⟨a, xs, rfl, hx, hw, q2 hw⟩
def yg (f : FE) (l u : FP) : FE := fun ρ => (f ρ).bind fun x => (l ρ).bind fun lo => (u ρ).bind fun hi => match x with
 | .tup ds => some (.tup (qS ds lo hi))
 | .lst ds => some (.lst (qS ds lo hi))
 | _ => none
theorem XJ {ds : List D} {lo hi : Option Int} (h : HT.sIx ds.length 0 lo = 0 /\ HT.sIx ds.length ds.length hi = ds.length) : qS ds lo hi = ds := by
 unfold qS
 rw [h.1, h.2]
 simp
theorem yF {lo hi : Option Expr} {l u : FP} (he : DR X e f) (hl : DP X lo l) (hu : DP X hi u) : DE X (.Subscript e (.Slice lo hi none p2) pos) (yg f l u) :=
 yV (Vf (UT.or GV) he hl hu) fun σ H Q ⟨H₀, Hf₀, ρ, Hf, d, R, q, k⟩ => by
  obtain ⟨x, e1, e2⟩ := zP q
  cases e3 : l ρ with
  | none => rw [e3] at e2; cases e2
  | some lo =>
   rw [e3] at e2
   cases e4 : u ρ with
   | none => rw [e4] at e2; cases e2
   | some hi =>
    rw [e4] at e2
    simp only [g0a] at e2
    refine ⟨H₀, Hf₀, ρ, Hf, x, R, e1, fun v H1 Hf1 R1 s1 t1 h1 => ⟨H₀, Hf₀, ρ, Hf1, lo, R1, e3, fun H2 Hf2 R2 s2 t2 => ⟨H₀, Hf₀, ρ, Hf2, hi, R2, e4, fun H3 Hf3 R3 s3 t3 => ?_⟩⟩⟩
    have h3 := (h1.mono t2).mono t3
    have ss := (s1.trans s2).trans s3
    have tt := (t1.trans t2).trans t3
    split at e2
    ·cases e2
     obtain ⟨a, xs, rfl, qa, la⟩ := h3.tup R3
     refine .inl ⟨a, xs, rfl, qa, fun hw => ?_, fun hw p hp => ?_⟩
     ·rw [la.length] at hw
      exact k _ _ _ R3 ss tt (by rw [XJ hw]; exact h3.tupF)
     ·have sm := zY (o := .tup (Ut xs lo hi)) (R3.sf.free hp)
      exact k _ _ _ (R3.lay hp) (ss.trans (zY hp)) (tt.trans sm) (Has.tup_iff.mpr ⟨p, _, rfl, SqT.of zz, (la.cut lo hi).mono sm⟩)
    ·cases e2
     obtain ⟨a, xs, rfl, qa, la⟩ := h3.lst R3
     refine .inr ⟨a, xs, rfl, qa, fun p hp => ?_⟩
     have sm := zY (o := .lst (Ut xs lo hi)) (R3.sf.free hp)
     exact k _ _ _ (R3.lay hp) (ss.trans (zY hp)) (tt.trans sm) (Has.lst_iff.mpr ⟨p, _, rfl, SqL.of zz, (la.cut lo hi).mono sm⟩)
    ·cases e2
def MJ (K : W.Frag) : V -> Hp -> VK -> Prop := fun x H Q => ∃ a xs, x = .ref a /\ ((SqT K H a xs /\ ∀ p, H p = none -> Q (.ref p) (upd H p (.tup xs.reverse))) \/ (SqL K H a xs /\ ∀ p, H p = none -> Q (.ref p) (upd H p (.lst xs.reverse))))
theorem Z1 (its : List Value) : slicePick its.toArray none none (some (-1)) = its.reverse.toArray := by
 have := Vd its.toArray
 have hb : sliceBounds none none (some (-1)) its.toArray.size = (((its.toArray.size : Nat) : Int) - 1, -1, -1) := by
  unfold sliceBounds
  simp
 unfold slicePick
 rw [hb]
 show ((sliceRange (((its.toArray.size : Nat) : Int) - 1) (-1) (-1)).filterMap (its.toArray[·]?)).toArray = _
 have hr : sliceRange (((its.toArray.size : Nat) : Int) - 1) (-1) (-1) = (g1f its.toArray.size).map fun (k : Nat) => (((its.toArray.size : Nat) : Int) - 1 + (k : Int) * (-1)).toNat := by
  unfold sliceRange
  have h1 : ¬ ((-1 : Int) > 0) := by omega
  simp only [h1, if_false]
  have hc : (if ((its.toArray.size : Nat) : Int) - 1 > -1 then (((its.toArray.size : Nat) : Int) - 1 - -1 - -1 - 1) / (- -1) else 0).toNat = its.toArray.size := by
   have h1' : (- -1 : Int) = 1 := rfl
   rw [h1', Int.ediv_one]
   split <;> omega
  rw [hc]
  congr 1
  funext k
  congr 1
  omega
 rw [hr, List.filterMap_map]
 exact this
section
variable {X : Cx} {a b c e st : Expr} {f g h fs : FE} {pos p2 : Pos}
theorem Cp {te ts : TE} (he : PE X e te) (hst : PE X st ts) : PE X (.Subscript e (.Slice none none (some st) p2) pos) (fun σ H Q => te σ H fun x H1 => ts σ H1 fun y H2 => y = .int (-1) /\ MJ X.K x H2 Q) := by
 intro pins s σ H Q I h
 refine Subscript_ (thn (he pins s σ H _ I h) fun v s1 ⟨x, H1, I1, r1, q1⟩ => ?_)
 refine wpAny_Slice ?_
 rw [evalPart_none]
 refine wpAny_pure ?_
 refine wpAny_pure ?_
 rw [evalPart_some]
 refine thn (hst pins s1 σ H1 _ I1 q1) fun vs s3 ⟨y, H3, I3, ry, e1, a, xs, ex, q3⟩ => ?_
 subst e1
 subst ex
 obtain ⟨t, rfl⟩ := ry
 cases r1
 have I4 : Inv X pins σ H3 { s3 with heap := s3.heap.push { cls := .type "slice", data := .fields #[.none, .none, .int (-1) t] } } := I3.kept (t' := s3.toks) fun b ob q => Heap.get?_push_of_some _ q
 show wpAny (model X.prog X.w) X.A (subscriptTail e (.Slice none none (some st) p2) (.ref a) (.ref s3.heap.objs.size)) (EP X pins σ Q) X.xe { s3 with heap := s3.heap.push { cls := .type "slice", data := .fields #[.none, .none, .int (-1) t] } }
 have hsl : Heap.IsSliceOf (s3.heap.push { cls := .type "slice", data := .fields #[.none, .none, .int (-1) t] }) s3.heap.objs.size .none .none (.int (-1) t) := Heap.IsSliceOf.new ..
 rcases q3 with ⟨hq, q⟩ | ⟨hq, q⟩
 ·obtain ⟨its, r, pl, hz⟩ := I4.tuple hq
  have hlen := r.length
  refine tail_any (ops := [.ref a, .ref s3.heap.objs.size]) pl.typeIs PyProof.Rows.slot_tuple_getitem.lookup ?_ (by with_unfolding_all rfl)
  refine ji pl hsl ?_ (by rw [g0u, <- hlen]; exact hz)
  refine ⟨.ref _, _, I4.laid (t' := s3.toks) (o := .tup xs.reverse) (fun b ob q => Heap.get?_push_of_some _ q) (g0o _) ?_, rfl, q _ (I4.hok.fresh (g0o _))⟩
  exact ⟨by rw [g1s]; exact hz, _, r.reverse, IsTup.new _ _⟩
 ·obtain ⟨its, r, pl, hz⟩ := I4.list hq
  have hlen := r.length
  refine tail_any (ops := [.ref a, .ref s3.heap.objs.size]) pl.isList.typeIs slot_list_getitem.lookup ?_ (by with_unfolding_all rfl)
  refine wpAny_getItem_list_slice pl.isList hsl .none .none (.int (-1) t) (by decide) ?_ (by rw [g0u, <- hlen]; exact hz)
  rw [Z1]
  refine ⟨.ref _, _, I4.laid (t' := s3.toks) (o := .lst xs.reverse) (fun b ob q => Heap.get?_push_of_some _ q) (g0o _) ?_, rfl, q _ (I4.hok.fresh (g0o _))⟩
  exact ⟨by rw [g1s]; exact hz, _, 0, r.reverse, Heap.get?_push_size _ rfl⟩
def D3 (f fs : FE) : FA := fun ρ => (f ρ).bind fun x => (fs ρ).bind fun y => match x, y with
 | .lst ds, .int i => if i = -1 then some ds.reverse else none
 | _, _ => none
theorem ZQ {α : Type} {f g : FE} {k : D -> D -> Option α} {ρ : Rho} {r : α} (h : ((f ρ).bind fun x => (g ρ).bind fun y => k x y) = some r) : ∃ x y, f ρ = some x /\ g ρ = some y /\ k x y = some r := by
 obtain ⟨x, e1, e2⟩ := zP h
 obtain ⟨y, e3, e4⟩ := zP e2
 exact ⟨x, y, e1, e3, e4⟩
theorem C7 (he : DR X e f) (hst : DR X st fs) : DN X (.Subscript e (.Slice none none (some st) p2) pos) (D3 f fs) :=
 yV (Cp he hst) fun σ H Q ⟨H₀, Hf₀, ρ, Hf, d, R, q, k⟩ => by
  obtain ⟨x, y, e1, e2, e3⟩ := ZQ q
  refine ⟨H₀, Hf₀, ρ, Hf, x, R, e1, fun v H1 Hf1 R1 s1 t1 h1 => ⟨H₀, Hf₀, ρ, Hf1, y, R1, e2, fun v' H2 Hf2 R2 s2 t2 h2 => ?_⟩⟩
  have h3 := h1.mono t2
  split at e3
  ·split at e3
   ·cases e3
    rename_i hi
    subst hi
    obtain ⟨a, xs, rfl, qa, la⟩ := h3.lst R2
    refine ⟨h2.int, a, xs, rfl, .inr ⟨qa, fun p hp => ?_⟩⟩
    exact k _ _ _ _ (R2.layN hp) ((s1.trans s2).trans (zY hp)) (t1.trans t2) la.reverse zz (R2.sf.free hp) ((s1.trans s2).free hp)
   ·cases e3
  ·cases e3
def jy : List D -> Option D
 | [.lst ds] => some (.tup ds)
 | [.tup ds] => some (.tup ds)
 | _ => none
theorem qK : FnR X (fun xs H Q => ∃ p ys, xs = [.ref p] /\ ((SqL X.K H p ys /\ ∀ l, H l = none -> Q (.ref l) (upd H l (.tup ys))) \/ (SqT X.K H p ys /\ Q (.ref p) H))) jy := by
 intro σ ρ H₀ Hf₀ H Hf xs ds d Q R hx hφ k
 unfold jy at hφ
 split at hφ
 ·cases hφ
  obtain ⟨v, rfl, hv⟩ := hx.one
  obtain ⟨a, ys, rfl, q, l⟩ := hv.lst R
  refine ⟨a, ys, rfl, .inl ⟨q, fun p hp => ?_⟩⟩
  have sm := zY (o := .tup ys) (R.sf.free hp)
  exact k _ _ _ (R.lay hp) (zY hp) sm (Has.tup_iff.mpr ⟨p, _, rfl, SqT.of zz, l.mono sm⟩)
 ·cases hφ
  obtain ⟨v, rfl, hv⟩ := hx.one
  obtain ⟨a, ys, rfl, q, l⟩ := hv.tup R
  exact ⟨a, ys, rfl, .inr ⟨q, k _ _ _ R zv zv hv.tupF⟩⟩
 ·cases hφ
end
end
theorem J5 {y y' : V} {u : Value} {K : W.Frag} {H : Hp} {d d' : D} (h : Has K H d y) (h' : Has K H d' y') (r : xK y u) (r' : xK y' u) : y = y' := by
 cases d with
 | non =>
  cases Has.non_iff.mp h
  cases r
  cases d' with
  | non => cases Has.non_iff.mp h'; rfl
  | bl _ => cases Has.bl_iff.mp h'; cases r'
  | int _ => cases Has.int_iff.mp h'; obtain ⟨t, e⟩ := r'; cases e
  | str _ => cases Has.str_iff.mp h'; obtain ⟨t, e⟩ := r'; cases e
  | tup _ => obtain ⟨_, _, rfl, _⟩ := Has.tup_iff.mp h'; cases r'
  | lst _ => obtain ⟨_, _, rfl, _⟩ := Has.lst_iff.mp h'; cases r'
 | bl b =>
  cases Has.bl_iff.mp h
  cases r
  cases d' with
  | non => cases Has.non_iff.mp h'; cases r'
  | bl _ => cases Has.bl_iff.mp h'; cases r'; rfl
  | int _ => cases Has.int_iff.mp h'; obtain ⟨t, e⟩ := r'; cases e
  | str _ => cases Has.str_iff.mp h'; obtain ⟨t, e⟩ := r'; cases e
  | tup _ => obtain ⟨_, _, rfl, _⟩ := Has.tup_iff.mp h'; cases r'
  | lst _ => obtain ⟨_, _, rfl, _⟩ := Has.lst_iff.mp h'; cases r'
 | int b =>
  cases Has.int_iff.mp h
  obtain ⟨t0, rfl⟩ := r
  cases d' with
  | non => cases Has.non_iff.mp h'; cases r'
  | bl _ => cases Has.bl_iff.mp h'; cases r'
  | int _ => cases Has.int_iff.mp h'; obtain ⟨t, e⟩ := r'; cases e; rfl
  | str _ => cases Has.str_iff.mp h'; obtain ⟨t, e⟩ := r'; cases e
  | tup _ => obtain ⟨_, _, rfl, _⟩ := Has.tup_iff.mp h'; cases r'
  | lst _ => obtain ⟨_, _, rfl, _⟩ := Has.lst_iff.mp h'; cases r'
 | str b =>
  cases Has.str_iff.mp h
  obtain ⟨t0, rfl⟩ := r
  cases d' with
  | non => cases Has.non_iff.mp h'; cases r'
  | bl _ => cases Has.bl_iff.mp h'; cases r'
  | int _ => cases Has.int_iff.mp h'; obtain ⟨t, e⟩ := r'; cases e
  | str _ => cases Has.str_iff.mp h'; obtain ⟨t, e⟩ := r'; cases e; rfl
  | tup _ => obtain ⟨_, _, rfl, _⟩ := Has.tup_iff.mp h'; cases r'
  | lst _ => obtain ⟨_, _, rfl, _⟩ := Has.lst_iff.mp h'; cases r'
 | tup ds =>
  obtain ⟨a, _, rfl, _⟩ := Has.tup_iff.mp h
  cases r
  cases d' with
  | non => cases Has.non_iff.mp h'; cases r'
  | bl _ => cases Has.bl_iff.mp h'; cases r'
  | int _ => cases Has.int_iff.mp h'; obtain ⟨t, e⟩ := r'; cases e
  | str _ => cases Has.str_iff.mp h'; obtain ⟨t, e⟩ := r'; cases e
  | tup _ => obtain ⟨_, _, rfl, _⟩ := Has.tup_iff.mp h'; cases r'; rfl
  | lst _ => obtain ⟨_, _, rfl, _⟩ := Has.lst_iff.mp h'; cases r'; rfl
 | lst ds =>
  obtain ⟨a, _, rfl, _⟩ := Has.lst_iff.mp h
  cases r
  cases d' with
  | non => cases Has.non_iff.mp h'; cases r'
  | bl _ => cases Has.bl_iff.mp h'; cases r'
  | int _ => cases Has.int_iff.mp h'; obtain ⟨t, e⟩ := r'; cases e
  | str _ => cases Has.str_iff.mp h'; obtain ⟨t, e⟩ := r'; cases e
  | tup _ => obtain ⟨_, _, rfl, _⟩ := Has.tup_iff.mp h'; cases r'; rfl
  | lst _ => obtain ⟨_, _, rfl, _⟩ := Has.lst_iff.mp h'; cases r'; rfl
open Classical in
noncomputable def X8 (K : W.Frag) (H : Hp) (dx : D) (u : Value) : Bool := decide (∃ d y, xK y u /\ Has K H d y /\ eqD d dx = true)
section
variable {X : Cx} {pins : List (Addr × Obj)} {σ : St} {H : Hp} {s : Shared}
open Classical in
theorem Jx (I : Inv X pins σ H s) {dx d : D} {y : V} {u : Value} (r : xK y u) (h : Has X.K H d y) : X8 X.K H dx u = eqD d dx := by
 unfold X8
 cases hq : eqD d dx with
 | true => exact decide_eq_true ⟨d, y, r, h, hq⟩
 | false =>
  refine decide_eq_false ?_
  rintro ⟨d', y', r', h', e'⟩
  cases J5 h' h r' r
  cases Has.inj I h' h
  rw [hq] at e'; cases e'
theorem qQ (I : Inv X pins σ H s) {dx : D} : ∀ {ds : List D} {xs : List V} {us : List Value}, z7 X.K H ds xs -> xk xs us -> us.any (X8 X.K H dx) = ds.any fun d => eqD d dx
 | [], _, _, h, r => by rw [z7.nil_iff] at h; subst h; cases r; rfl
 | d :: ds, _, _, h, r => by
  obtain ⟨x, xr, rfl, h1, h2⟩ := z7.cons_iff.mp h
  cases r with
  | cons r rr => rw [List.any_cons, List.any_cons, Jx I r h1, qQ I h2 rr]
theorem qE (I : Inv X pins σ H s) {A : Around} {dx : D} {x : V} {v : Value} (hx : Has X.K H dx x) (rx : xK x v) : ∀ {ds : List D} {xs : List V} {us : List Value}, z7 X.K H ds xs -> xk xs us -> A.units + qh ds < cLine -> ∀ u ∈ us, SeqAt.EqAt A s u v (X8 X.K H dx u)
 | [], _, _, h, r, _ => by rw [z7.nil_iff] at h; subst h; cases r; intro u hu; cases hu
 | d :: ds, _, _, h, r, hu => by
  obtain ⟨y, yr, rfl, h1, h2⟩ := z7.cons_iff.mp h
  unfold qh at hu
  cases r with
  | cons r rr =>
   intro u' hu'
   rcases g0m.mp hu' with rfl | hm
   ·rw [Jx I r h1]
    exact Jh I d A dx y x _ v h1 hx r rx (by have := Nat.le_max_left (dep d) (qh ds); omega)
   ·exact qE I hx rx h2 rr (by have := Nat.le_max_right (dep d) (qh ds); omega) u' hm
end
section
variable {X : Cx} {e a b c : Expr} {f g h : FE} {pos p2 : Pos} {kk : Nat}
def inS (x z : Str) : Bool := !(Builtin.Str.occurrences z x 0 z.length 1).isEmpty
def D4 (K : W.Frag) (neg : Bool) : R2 := fun x y H Q => (∃ p ds xs dx, y = .ref p /\ (SqL K H p xs \/ SqT K H p xs) /\ z7 K H ds xs /\ Has K H dx x /\ qh ds <= 100 /\ Q (.bl (xor neg (ds.any fun d => eqD d dx))) H) ∨
 (∃ i j, x = .str i /\ y = .str j /\ Q (.bl (xor neg (inS i j))) H)
theorem Gv (hr : Room kk X.A) : OpR X (compareOp .In) (D4 X.K false) := by
 intro pins s σ H x y v u Q I rx ry h
 rcases h with ⟨p, ds, xs, dx, rfl, hq, hl, hx, hd, q⟩ | h
 ·cases ry
  have hu : X.A.in1.units + qh ds < cLine := by show X.A.units + 1 + qh ds < cLine; have := hr.un; omega
  simp only [Bool.false_xor] at q
  rcases hq with hq | hq
  ·obtain ⟨its, r, pl, hz⟩ := I.list hq
   refine SeqAt.in_listAt (X8 X.K H dx) pl.isList (fun w hw => qE I hx rx hl r hu w (by simpa using hw)) ⟨.bl _, H, I, rfl, ?_⟩
   rw [show its.toArray.any (X8 X.K H dx) = its.any (X8 X.K H dx) by simp, qQ I hl r]
   exact q
  ·obtain ⟨its, r, pl, hz⟩ := I.tuple hq
   refine SeqAt.in_tupleAt (X8 X.K H dx) pl (fun w hw => qE I hx rx hl r hu w (by simpa using hw)) ⟨.bl _, H, I, rfl, ?_⟩
   rw [show its.toArray.any (X8 X.K H dx) = its.any (X8 X.K H dx) by simp, qQ I hl r]
   exact q
 ·obtain ⟨i, j, e1, e2, q⟩ := h
  exact Qp pins s σ H x y v u Q I rx ry ⟨i, j, e1, e2, by simpa [inS] using q⟩
theorem Xj (hr : Room kk X.A) : OpR X (compareOp .NotIn) (D4 X.K true) := by
 intro pins s σ H x y v u Q I rx ry h
 rcases h with ⟨p, ds, xs, dx, rfl, hq, hl, hx, hd, q⟩ | h
 ·cases ry
  have hu : X.A.in1.units + qh ds < cLine := by show X.A.units + 1 + qh ds < cLine; have := hr.un; omega
  simp only [Bool.true_xor] at q
  rcases hq with hq | hq
  ·obtain ⟨its, r, pl, hz⟩ := I.list hq
   refine SeqAt.notIn_listAt (X8 X.K H dx) pl.isList (fun w hw => qE I hx rx hl r hu w (by simpa using hw)) ⟨.bl _, H, I, rfl, ?_⟩
   rw [show its.toArray.any (X8 X.K H dx) = its.any (X8 X.K H dx) by simp, qQ I hl r]
   exact q
  ·obtain ⟨its, r, pl, hz⟩ := I.tuple hq
   refine SeqAt.notIn_tupleAt (X8 X.K H dx) pl (fun w hw => qE I hx rx hl r hu w (by simpa using hw)) ⟨.bl _, H, I, rfl, ?_⟩
   rw [show its.toArray.any (X8 X.K H dx) = its.any (X8 X.K H dx) by simp, qQ I hl r]
   exact q
 ·obtain ⟨i, j, e1, e2, q⟩ := h
  exact Xi pins s σ H x y v u Q I rx ry ⟨i, j, e1, e2, by simpa [inS] using q⟩
def inD (neg : Bool) : D -> D -> Option D
 | x, .lst ds => if qh ds <= 100 then some (.bl (xor neg (ds.any fun d => eqD d x))) else none
 | x, .tup ds => if qh ds <= 100 then some (.bl (xor neg (ds.any fun d => eqD d x))) else none
 | .str x, .str z => some (.bl (xor neg (inS x z)))
 | _, _ => none
theorem Vi {neg : Bool} : OpD X (D4 X.K neg) (inD neg) := by
 intro σ ρ H₀ Hf₀ H Hf x y dx dy d Q R hx hy hφ k
 unfold inD at hφ
 split at hφ
 ·split at hφ
  ·cases hφ
   rename_i hd
   obtain ⟨a, xs, rfl, qa, la⟩ := hy.lst R
   exact .inl ⟨a, _, xs, dx, rfl, .inl qa, la.mono R.sf, hx.full R, hd, k _ _ _ R zv zv (Has.bl_iff.mpr rfl)⟩
  ·cases hφ
 ·split at hφ
  ·cases hφ
   rename_i hd
   obtain ⟨a, xs, rfl, qa, la⟩ := hy.tup R
   exact .inl ⟨a, _, xs, dx, rfl, .inr qa, la.mono R.sf, hx.full R, hd, k _ _ _ R zv zv (Has.bl_iff.mpr rfl)⟩
  ·cases hφ
 ·cases hφ
  exact .inr ⟨_, _, hx.str, hy.str, k _ _ _ R zv zv (Has.bl_iff.mpr rfl)⟩
 ·cases hφ
theorem Mn (hr : Room kk X.A) (ha : DR X a f) (hb : DR X b g) (hm : behindInMarks .In b = false := by rfl) : DE X (.Compare a [.In] [b] pos) (zc (inD false) f g) := KZ (Gv hr) Vi ha hb hm
theorem Jm (hr : Room kk X.A) (ha : DR X a f) (hb : DR X b g) (hm : behindInMarks .NotIn b = false := by rfl) : DE X (.Compare a [.NotIn] [b] pos) (zc (inD true) f g) := KZ (Xj hr) Vi ha hb hm
theorem Fu (hr : Room kk X.A) (ha : DR X a f) (hb : DR X b g) (hm : behindInMarks .In b = false := by rfl) : DT X (.Compare a [.In] [b] pos) (blF (zc (inD false) f g)) := xP (Gv hr) Vi ha hb hm
theorem KN (hr : Room kk X.A) (ha : DR X a f) (hb : DR X b g) (hm : behindInMarks .NotIn b = false := by rfl) : DT X (.Compare a [.NotIn] [b] pos) (blF (zc (inD true) f g)) := xP (Xj hr) Vi ha hb hm
def uM (φ ψ : D -> D -> Option D) (f g h : FE) : FE := fun ρ => (f ρ).bind fun x => (g ρ).bind fun y => (φ x y).bind fun
 | .bl true => (h ρ).bind fun z => ψ y z
 | .bl false => some (.bl false)
 | _ => none
theorem Y0 {r r' : R2} {φ ψ : D -> D -> Option D} (hφ : OpD X r φ) (hψ : OpD X r' ψ) (σ : St) (H : Hp) (Q : VK) (hh : tF X.K (uM φ ψ f g h) σ H Q) : UN r r' (tR X.K f) (tR X.K g) (tR X.K h) σ H Q := by
 obtain ⟨H₀, Hf₀, ρ, Hf, d, R, q, k⟩ := hh
 obtain ⟨x, y, e1, e2, e3⟩ := ZQ q
 obtain ⟨z, e4, e5⟩ : ∃ z, φ x y = some z /\ _ = some d := by
  cases hz : φ x y with
  | none => rw [hz] at e3; cases e3
  | some z => rw [hz] at e3; exact ⟨z, rfl, e3⟩
 refine ⟨H₀, Hf₀, ρ, Hf, x, R, e1, fun v H1 Hf1 R1 s1 t1 h1 => ⟨H₀, Hf₀, ρ, Hf1, y, R1, e2, fun v' H2 Hf2 R2 s2 t2 h2 => ?_⟩⟩
 refine hφ σ ρ H₀ Hf₀ H2 Hf2 v v' x y z _ R2 (h1.mono t2) h2 e4 fun w H3 Hf3 R3 s3 t3 h3 => ?_
 cases z with
 | bl b =>
  refine ⟨b, Has.bl_iff.mp h3, ?_⟩
  cases b with
  | true =>
   obtain ⟨z', e6, e7⟩ := zP e5
   refine Ky ⟨H₀, Hf₀, ρ, Hf3, z', R3, e6, fun w' H4 Hf4 R4 s4 t4 h4 => ?_⟩
   exact hψ σ ρ H₀ Hf₀ H4 Hf4 v' w' y z' d Q R4 ((h2.mono t3).mono t4) h4 e7 fun u H5 Hf5 R5 s5 t5 h5 => k _ _ _ R5 ((((s1.trans s2).trans s3).trans s4).trans s5) ((((t1.trans t2).trans t3).trans t4).trans t5) h5
  | false =>
   cases e5
   exact Kz (k _ _ _ R3 ((s1.trans s2).trans s3) ((t1.trans t2).trans t3) (Has.bl_iff.mpr rfl))
 | _ => cases e5
theorem Bk {op op' : CmpOp} {r r' : R2} {φ ψ : D -> D -> Option D} (ho : OpR X (compareOp op) r) (ho' : OpR X (compareOp op') r') (hφ : OpD X r φ) (hψ : OpD X r' ψ) (ha : DR X a f) (hb : DR X b g) (hc : DR X c h)
  (hm : lastMarks [op, op'] [b, c] = false := by with_unfolding_all rfl) : DE X (.Compare a [op, op'] [b, c] pos) (uM φ ψ f g h) := yV (Kc ho ho' ha hb hc hm) (Y0 hφ hψ)
theorem j3 {op op' : CmpOp} {r r' : R2} {φ ψ : D -> D -> Option D} (ho : OpR X (compareOp op) r) (ho' : OpR X (compareOp op') r') (hφ : OpD X r φ) (hψ : OpD X r' ψ) (ha : DR X a f) (hb : DR X b g) (hc : DR X c h)
  (hm : lastMarks [op, op'] [b, c] = false := by with_unfolding_all rfl) : DT X (.Compare a [op, op'] [b, c] pos) (blF (uM φ ψ f g h)) :=
 Va (J6 ho ho' ha hb hc hm) fun σ H Q ⟨H₀, Hf₀, ρ, Hf, d, R, q, k⟩ => Y0 hφ hψ σ H _ ⟨H₀, Hf₀, ρ, Hf, _, R, YE q, fun v H1 Hf1 R1 s1 t1 h1 => ⟨d, Has.bl_iff.mp h1, k _ _ R1 s1 t1⟩⟩
structure GTup (K : W.Frag) (mg : Str -> Option Value) (x : Str) (ds : List D) : Prop where
 ex : ∃ a, mg x = some (.ref a) /\ Has K (fun _ => none) (.tup ds) (.ref a)
theorem Y8 {H : Hp} : yp (fun _ => none) H := fun _ _ e => by cases e
theorem Jo {x : Str} {ds : List D} (hg : Gl X x) (hm : GTup X.K X.mg x ds) (hd : (x == ("__debug__" : Str)) = false := by decide) : DE X (.Name x pos) (cF (.tup ds)) := by
 obtain ⟨a, h1, h2⟩ := hm.ex
 exact yV (Wi (v := .ref a) hg h1 rfl hd) fun σ H Q ⟨H₀, Hf₀, ρ, Hf, d', R, q, k⟩ => by
  cases q
  exact k _ _ _ R zv zv (h2.mono Y8)
theorem Q5 {K : W.Frag} {mg : Str -> Option Value} {x : Str} {ds : List D} {a : Addr} {xs : List V} {its : Array Value} {od : Option Addr} {n : Nat} {osl : Array (Option Value)} (h1 : mg x = some (.ref a)) (h2 : K.lookup a = some ⟨.type "tuple", od, .seq its n, osl⟩) (hz : its.size <= sizeLine) (hv : xk xs its.toList) (hl : z7 K (fun _ => none) ds xs) : GTup K mg x ds :=
 ⟨a, h1, Has.tup_iff.mpr ⟨a, xs, rfl, .inr ⟨_, its, n, h2, rfl, rfl, hz, hv⟩, hl⟩⟩
structure GDict (K : W.Frag) (mg : Str -> Option Value) (x : Str) (kvs : List (Int × D)) : Prop where
 ex : ∃ (a : Addr) (o : Obj) (es : Array DictEntry) (ep : Nat) (vs : List (Int × Value)), mg x = some (.ref a) /\ K.lookup a = some o /\ o.ExactDict /\ o.data = .dict es ep /\ (∀ P w, KeysOf (intKind P w) es /\ Pairs (intKind P w) es.toList vs) /\ (vs.map (·.1)).Nodup ∧
  ∀ k d, kvs.lookup k = some d -> ∃ u v, valueAt vs k = some u /\ xK v u /\ Has K (fun _ => none) d v
def jf (kvs : List (Int × D)) : D -> Option D
 | .int k => kvs.lookup k
 | _ => none
theorem Bj {x : Str} {i : Expr} {kvs : List (Int × D)} {p : Pos} (hg : Gl X x) (hm : GDict X.K X.mg x kvs) (hi : DR X i f) (hs : Mp i := by intro _ _; rfl) (hd : (x == ("__debug__" : Str)) = false := by decide) : DE X (.Subscript (.Name x p) i pos) (uB (jf kvs) f) := by
 obtain ⟨a, o, es, ep, vs, h1, h2, h3, h4, h5, h6, h7⟩ := hm.ex
 intro pins s σ H Q I h
 obtain ⟨H₀, Hf₀, ρ, Hf, d, R, q, k⟩ := h
 obtain ⟨y, e1, e2⟩ := zP q
 unfold jf at e2
 split at e2
 ·rename_i n
  obtain ⟨u, v, q1, q2, q3⟩ := h7 n d e2
  refine GU PySem.F.slot_dict_getitem.lookup hs (thn (Wi (v := .ref a) hg h1 rfl hd pins s σ H (fun x H1 => x = .ref a /\ H1 = H) I ⟨rfl, rfl⟩) fun u0 s1 ⟨x, H1, I1, rx, ex, eH⟩ => ?_)
  subst ex eH
  cases rx
  refine thn (hi pins s1 σ H1 (fun y H2 => y = .int n /\ ∃ Hf2, Rep X.K H₀ Hf₀ σ ρ H2 Hf2 /\ yp H1 H2 /\ yp Hf Hf2) I1 ⟨H₀, Hf₀, ρ, Hf, _, R, e1, fun v H1 Hf1 R1 s1 t1 h1 => ⟨h1.int, Hf1, R1, s1, t1⟩⟩) fun iv s2 ⟨y, H2, I2, ry, ey, Hf2, R2, s2', t2⟩ => ?_
  subst ey
  obtain ⟨t, rfl⟩ := ry
  have hb := I2.kIn a o h2
  have hdo : s2.heap.DictOf (intKind X.prog X.w) a vs := ⟨o, es, ep, hb, h3, h4, (h5 _ _).1, (h5 _ _).2, h6⟩
  refine ⟨⟨o, hb, h3.1⟩, wpAny_getItem_of (knd := intKind X.prog X.w) (k := n) (by show Value.isInt n (.int n t) = true; simp [Value.isInt]) hdo.mapOf q1 ⟨v, H2, I2.tok _, q2, ?_⟩⟩
  exact k _ _ _ R2 s2' t2 (q3.mono Y8)
 ·cases e2
end
theorem ku : Manifest.owners.lookup (String.ofList ['d', 'e', 's', 'r', 'e', 'v', 'e', 'r'].reverse) = some Manifest.sig_reversed := by kernel_rfl
theorem yw : PySem.Slot "reversed" "__next__" "reversed.__next__" :=
 .of (owner := "reversed") (n := "__next__") (by rw [typeLookup_type, builtinLookup_eq_fast]; kernel_rfl) (by decide +kernel) (by decide +kernel) (by decide +kernel)
  (by first | exact .inl (by decide +kernel) | exact .inr (by decide +kernel)) (by rw [isSubtype_type]; kernel_rfl)
theorem x9 : entryFor table "reversed.__next__" = some Builtin.«reversed.__next__» := entryFor_of_tree (by kernel_rfl)
theorem wO (a : Value) : argsOk "reversed.__next__" ⟨[a], []⟩ := by
 unfold argsOk; rw [signature?_of (id := "reversed.__next__") (n := ['_', '_', 't', 'x', 'e', 'n', '_', '_']) (o := ['d', 'e', 's', 'r', 'e', 'v', 'e', 'r']) (by kernel_rfl) ku]; kernel_rfl
theorem qz : PySem.Slot "reversed" "__iter__" "reversed.__iter__" :=
 .of (owner := "reversed") (n := "__iter__") (by rw [typeLookup_type, builtinLookup_eq_fast]; kernel_rfl) (by decide +kernel) (by decide +kernel) (by decide +kernel)
  (by first | exact .inl (by decide +kernel) | exact .inr (by decide +kernel)) (by rw [isSubtype_type]; kernel_rfl)
theorem YG (a : Value) : argsOk "reversed.__iter__" ⟨[a], []⟩ := by
 unfold argsOk; rw [signature?_of (id := "reversed.__iter__") (n := ['_', '_', 'r', 'e', 't', 'i', '_', '_']) (o := ['d', 'e', 's', 'r', 'e', 'v', 'e', 'r']) (by kernel_rfl) ku]; kernel_rfl
theorem Zk : entryFor table "reversed.__iter__" = some Builtin.«dict_keyiterator.__iter__» :=
 entryFor_alias (id' := "dict_keyiterator.__iter__") (by kernel_rfl) (by first | rfl | decide +kernel | (unfold String.splitOn; simp +decide [String.splitOnAux])) (by decide +kernel) (by kernel_rfl)
theorem Z0 : PySem.Slot "reversed" "__init__" "object.__init__" :=
 .of (owner := "object") (n := "__init__") (by rw [typeLookup_type, builtinLookup_eq_fast]; kernel_rfl) (by decide +kernel) (by decide +kernel) (by decide +kernel)
  (by first | exact .inl (by decide +kernel) | exact .inr (by decide +kernel)) (by rw [isSubtype_type]; kernel_rfl)
theorem Uu : TypeCalled "reversed" "reversed.__new__" "object.__init__" :=
 ⟨by decide +kernel, by decide +kernel, ⟨_, _, F.mro_reversed⟩, F.made_reversed, by decide +kernel, by rw [isSubtype_type]; kernel_rfl, Z0⟩
theorem qU : typeLookup (.type "tuple") "__reversed__" = pure none := by rw [typeLookup_type, builtinLookup_eq_fast]; kernel_rfl
theorem Zg : isSubtype (.type "tuple") (.type "dict") = pure false := by rw [isSubtype_type]; kernel_rfl
abbrev qu (h : Heap) (r t : Addr) (i : Int) : Prop := h.get? r = some { cls := .type "reversed", dict := none, data := .fields #[.ref t, rawInt i], slots := #[] }
section
variable {prog : Program} {w : World} {A : Around} {E : Value -> Shared -> Prop} {s : Shared}
theorem qC {r t : Addr} {i : Nat} {items : Array Value} {x : Value} {Q : Value -> Shared -> Prop} (hr : qu s.heap r t (i : Int)) (ht : IsTup s.heap t items) (hx : items[i]? = some x) (hz : items.size <= sizeLine)
  (hQ : ∀ h', qu h' r t ((i : Int) - 1) -> Heap.SameBut r s.heap h' -> Q x { s with heap := h', toks := s.toks + 1 }) : wpAny (model prog w) A (Builtin.«reversed.__next__» ⟨[.ref r], []⟩) (fun fin s' => ∃ v, fin = .done (.ret v) /\ Q v s') E s := by
 have hi : i < items.size := (Array.getElem?_eq_some_iff.mp hx).1
 have hn := qe
 show wpAny _ _ (field (.ref r) 0 >>= _) _ _ _
 refine wpAny_bind (wpAny_field hr rfl (x := .ref t) rfl ?_)
 show wpAny _ _ (field (.ref r) 1 >>= _) _ _ _
 refine wpAny_bind (wpAny_field hr rfl (x := rawInt (i : Int)) rfl ?_)
 show wpAny _ _ (if ((i : Int) < 0) then _ else _) _ _ _
 rw [if_neg (by omega)]
 refine wpAny_bind (wpAny_specialOf ht.typeIs PyProof.Rows.slot_tuple_getitem.lookup ?_)
 show wpAny _ _ (if (false = true) then _ else _) _ _ _
 rw [if_neg g1q]
 show wpAny _ _ (mkInt (i : Int) >>= _) _ _ _
 refine wpAny_bind (wpAny_mkInt ?_)
 refine wpAny_bind (wpAny_attempt ?_)
 refine getItem_tuple (j := i) ht (by omega) (by omega) (seqIndex_of (by omega) (by omega)) hx ?_
 show wpAny _ _ (field (.ref r) 1 >>= _) _ _ _
 refine wpAny_bind (wpAny_field (s := { s with toks := s.toks + 1 }) hr rfl (x := rawInt (i : Int)) rfl ?_)
 refine wpAny_bind (wpAny_setField_rec (s := { s with toks := s.toks + 1 }) hr (by simp) fun h₁ hr₁ hs₁ => ?_)
 exact wpAny_pure ⟨_, rfl, hQ h₁ hr₁ hs₁⟩
theorem jH {r t : Addr} {i : Int} {Q : Fin -> Shared -> Prop} (hh : A.handled = none) (hr : qu s.heap r t i) (hi : i < 0)
  (hE : ∀ h' e, Heap.ExtBut r s.heap h' -> (∃ o, h'.get? e = some o /\ o.cls = .type "StopIteration") -> E (.ref e) { s with heap := h' }) : wpAny (model prog w) A (Builtin.«reversed.__next__» ⟨[.ref r], []⟩) Q E s := by
 show wpAny _ _ (field (.ref r) 0 >>= _) _ _ _
 refine wpAny_bind (wpAny_field hr rfl (x := .ref t) rfl ?_)
 show wpAny _ _ (field (.ref r) 1 >>= _) _ _ _
 refine wpAny_bind (wpAny_field hr rfl (x := rawInt i) rfl ?_)
 show wpAny _ _ (if (i < 0) then _ else _) _ _ _
 rw [if_pos hi]
 refine wpAny_bind (wpAny_rule ?_)
 refine wpAny_bind ?_
 show wpAny _ _ (setField (.ref r) 1 (rawInt (-1)) >>= fun _ => setField (.ref r) 0 .none) _ _ _
 refine wpAny_bind (wpAny_setField_rec hr (by simp) fun h₁ hr₁ hs₁ => ?_)
 refine wpAny_setField_rec hr₁ (by simp) fun h₂ hr₂ hs₂ => ?_
 refine wpAny_bind ?_
 show wpAny _ _ (newExc (.type "StopIteration") [] >>= _) _ _ _
 refine wpAny_bind ?_
 simp only [newExc, newTuple]
 refine wpAny_bind (wpAny_newObj_type ?_ (by size_fits))
 refine wpAny_bind (m := firstArgMember _ _) (wpAny_of_eq (a := Value.none) (by first | rfl | (simp only [firstArgMember]; rfl)) ?_)
 refine wpAny_newObj_type ?_ (by size_fits)
 simp only [raiseNew]
 refine wpAny_bind (wpAny_handled ?_)
 first | rw [show A.in1.handled = none from hh] | rw [hh]
 refine wpAny_bind (wpAny_pure (wpAny_throw ?_))
 exact hE _ _ (fun b o hb e => Heap.get?_push_of_some _ (Heap.get?_push_of_some _ ((hs₂.2 b hb).trans ((hs₁.2 b hb).trans e)))) ⟨_, Heap.get?_push_size _ rfl, rfl⟩
theorem QI (t : Addr) (items : Array Value) (hfit : (items.size : Int) < 2 ^ 63) : Meets (Builtin.«reversed.__new__» ⟨[.type "reversed", .ref t], []⟩) (fun _ R s => IsTup s.heap t items ∧
  R (.ok (.ret (.ref s.heap.objs.size))) { s with heap := s.heap.push { cls := .type "reversed", data := .fields #[.ref t, rawInt ((items.size : Int) - 1)] }, toks := s.toks + 1 + 1 }) :=
 .of_wp fun prog w A R s h => by
  obtain ⟨ht, h⟩ := h
  unfold Builtin.«reversed.__new__»
  refine wpAny_bind (wpAny_of_eq (newClass_reversed _) ?_)
  try dsimp only
  refine wpAny_bind (wpAny_of_eq (a := ()) (by first | rfl | kernel_rfl) ?_)
  refine wpAny_bind (wpAny_of_eq (a := ()) (by first | rfl | kernel_rfl) ?_)
  try dsimp only
  refine wpAny_bind (wpAny_specialOf ht.typeIs qU ?_)
  try dsimp only
  refine wpAny_bind ?_
  show wpAny _ _ (isInstance (.ref t) (.type "dict") >>= _) _ _ _
  refine wpAny_bind (wpAny_isInstance ht.typeIs Zg ?_)
  show wpAny _ _ (if (false = true) then _ else _) _ _ _
  rw [if_neg g1q]
  refine wpAny_bind (wpAny_specialOf ht.typeIs PyProof.Rows.slot_tuple_getitem.lookup ?_)
  try dsimp only
  rw [if_pos (by decide)]
  refine wpAny_pure ?_
  show wpAny _ _ (if (false = true) then _ else _) _ _ _
  rw [if_neg g1q]
  refine wpAny_bind (len_tuple ht hfit ?_)
  refine wpAny_bind (wpAny_of_eq (a := some (items.size : Int)) rfl ?_)
  try dsimp only
  refine wpAny_bind ?_
  show wpAny _ _ (newObj (.type "reversed") (.fields #[.ref t, rawInt ((items.size : Int) - 1)])) _ _ _
  exact wpAny_newObj_type (wpAny_pure ⟨_, rfl, h⟩)
theorem VD {t : Addr} {items : Array Value} {Q : Value -> Shared -> Prop} (ht : IsTup s.heap t items) (hfit : (items.size : Int) < 2 ^ 63)
  (h : Q (.ref s.heap.objs.size) { s with heap := s.heap.push { cls := .type "reversed", data := .fields #[.ref t, rawInt ((items.size : Int) - 1)] }, toks := s.toks + 1 + 1 }) : wpAny (model prog w) A (call (.type "reversed") [.ref t]) Q E s :=
 callType_new Uu (by decide) (F.typeCall_reversed_1 _) (F.newCall_reversed_1 _) (fun obj => F.args_object_init_2 obj _) F.entry_reversed_new (QI t items hfit) ⟨ht, ⟨_, Heap.get?_push_size _ rfl, rfl⟩, h⟩
theorem jb {r t : Addr} {i : Int} {Q : Value -> Shared -> Prop} (he : qu s.heap r t i) (h : Q (.ref r) s) : wpAny (model prog w) A (pyIter (.ref r)) Q E s := by
 have hT : s.TypeIs (.ref r) "reversed" := ⟨_, he, rfl⟩
 refine wpAny_pyIter_slot hT qz (wpAny_call_entry qz hT Zk ?_ (YG _))
 show wpAny _ _ (ret (.ref r)) _ _ s
 exact wpAny_pure ⟨_, rfl, "reversed", _, hT, yw.lookup, h⟩
end
def ItB (K : W.Frag) (a : Addr) (n : Nat) : It :=
 ⟨fun i H => ∃ xs x, SqT K H a xs /\ xs.length = n /\ xs.reverse[i]? = some x, fun i H x H' => H' = H /\ ∀ xs, SqT K H a xs -> xs.reverse[i]? = some x, fun i H => ∃ xs, SqT K H a xs /\ xs.length = n /\ n <= i⟩
theorem JO {P : Program} {w : World} {K : W.Frag} {tg : Expr} (a r : Addr) (n : Nat) : Turn P w K tg (ItB K a n) [r] r (fun i h => qu h r a ((n : Int) - 1 - i)) where
 mem := by simp
 obj := fun i h st b hb => by
  have e : b = r := by simpa using hb
  subst e
  exact ⟨_, st, fun v z => by cases z⟩
 keep := fun i h h' st k => k r (by simp) _ st
 item := by
  intro X hP hw hK hc i pins s σ H E I hf st hg
  subst hP hw hK
  obtain ⟨xs, x, hq, hn, hx⟩ := hg
  obtain ⟨its, rv, p, hz⟩ := I.tuple hq
  have hl := rv.length
  have hi : i < xs.length := by have := (g0y.mp hx).1; simpa using this
  have hx' : xs[xs.length - 1 - i]? = some x := by rw [g2v hi] at hx; exact hx
  obtain ⟨u, hu, ru⟩ := rv.get hx'
  have fr := hf r (by simp)
  have hT : s.TypeIs (.ref r) "reversed" := ⟨_, st, rfl⟩
  have hk : ((n : Int) - 1 - i) = ((xs.length - 1 - i : Nat) : Int) := by omega
  rw [hk] at st
  unfold pyNext
  refine wpAny_bind (wpAny_attempt (wpAny_callSpecial?_slot (name := Str.ofString "__next__") hT yw (wpAny_call_entry yw hT x9
   (qC st p (x := u) (by simpa using hu) (by rw [g0u, <- hl]; exact hz) fun h' st' sb => wpAny_pure ?_) (wO _))))
  have I1 : Inv X pins σ H { s with heap := h', toks := s.toks + 1 } := xa (t' := s.toks + 1) I sb fr
  refine ⟨u, rfl, Q6 (s := { s with heap := h', toks := s.toks + 1 }) st' rfl rfl (by decide) ⟨x, H, I1, ru, ⟨rfl, fun ys hy => by rw [I.tuple_inj hy hq]; exact hx⟩, ?_, fun b hb => (hf b hb).1⟩⟩
  have e : ((n : Int) - 1 - ((i + 1 : Nat) : Int)) = ((xs.length - 1 - i : Nat) : Int) - 1 := by omega
  show qu h' r a ((n : Int) - 1 - ((i + 1 : Nat) : Int))
  rw [e]
  exact st'
 done := by
  intro X hP hw hK hc i pins s σ H E I hf st hg
  subst hP hw hK
  obtain ⟨xs, hq, hn, hx⟩ := hg
  have fr := hf r (by simp)
  have hT : s.TypeIs (.ref r) "reversed" := ⟨_, st, rfl⟩
  unfold pyNext
  refine wpAny_bind (wpAny_attempt (wpAny_callSpecial?_slot (name := Str.ofString "__next__") hT yw (wpAny_call_entry yw hT x9
   (jH (show X.A.in1.handled = none from I.ok.hd hc) st (by omega) fun h' e eb ⟨o, ho, hcl⟩ => ?_) (wO _))))
  refine wpAny_bind (wpAny_isInstance (T := "StopIteration") (b := true) ⟨o, ho, hcl⟩ isSubtype_stop ?_)
  obtain ⟨f0, f1, f2, f3, f4, f5⟩ := fr
  exact wpAny_pure ⟨rfl, I.turned (t' := s.toks) (fun b o hb e => eb b o hb e) f0 f1 f3 f4 f5⟩
 self := fun A i s Q E st h => jb st h
section
variable {X : Cx} {e : Expr} {f : FE} {pos : Pos} {tg : Expr}
def QV (f : FE) : FA := fun ρ => (f ρ).bind fun | .tup ds => some ds.reverse | _ => none
theorem UI {K : W.Frag} {Hf : Hp} {a : Addr} {xs : List V} {ds : List D} (qa : SqT K Hf a xs) (la : z7 K Hf ds xs) : Walks K Hf (ItB K a xs.length) ds.reverse := fun H2 Hf2 t2 sf2 i => by
 refine ⟨fun d hd => ?_, fun hle => ⟨xs, ux sf2 (ux t2 qa), rfl, by rw [la.length]; simpa using hle⟩⟩
 obtain ⟨v, e3, e4⟩ := la.reverse.get hd
 have sq : SqT K H2 a xs := ux sf2 (ux t2 qa)
 refine ⟨⟨xs, v, sq, rfl, e3⟩, fun x H3 hy => ?_⟩
 obtain ⟨rfl, hy⟩ := hy
 have := hy xs sq
 rw [e3] at this
 cases this
 exact ⟨Hf2, Grows.refl sf2, e4.mono t2⟩
theorem C9 {p : Pos} (hg : Gl X "reversed") (hm : X.mg "reversed" = none) (he : DE X e f) (hs : starEach [e] X.env = [(false, eval e X.env)] := by rfl) : DI X tg (.Call (.Name "reversed" p) [e] [] pos) (QV f) := by
 intro pins s σ H R I h
 obtain ⟨H₀, Hf₀, ρ, Hf, ds', R0, q, k⟩ := h
 obtain ⟨d, q3, q4⟩ := zP q
 refine Call_ (vV I hg hm boot_reversed (PyProof.Rows.callWith_type1 (thn ((zM he xb hs) pos pins s σ H (fun vs H1 => ∃ v Hf1, vs = [v] /\ Rep X.K H₀ Hf₀ σ ρ H1 Hf1 /\ yp H H1 /\ yp Hf Hf1 /\ Has X.K Hf1 d v) I ⟨H₀, Hf₀, ρ, Hf, d, R0, q3, fun v H1 Hf1 R1 s1 t1 h1 => ⟨v, Hf1, rfl, R1, s1, t1, h1⟩⟩) fun us s1 ⟨vs, H1, I1, r1, q1⟩ => ?_) hs rfl))
 obtain ⟨v, Hf1, rfl, R1, s1', t1, h1⟩ := q1
 cases r1 with
 | cons r rr =>
  cases rr
  cases d <;> try cases q4
  obtain ⟨a, xs, rfl, qa, la⟩ := Has.tup_iff.mp h1
  cases r
  obtain ⟨its, rv, p, hz⟩ := I1.tuple (ux R1.sf qa)
  have hl := rv.length
  have hn := qe
  refine VD p (by rw [g0u, <- hl]; omega) ?_
  have e0 : ((its.toArray.size : Nat) : Int) - 1 = (xs.length : Int) - 1 - ((0 : Nat) : Int) := by rw [g0u, <- hl]; simp
  have hr : qu (s1.heap.push { cls := .type "reversed", data := .fields #[.ref a, rawInt (((its.toArray.size : Nat) : Int) - 1)] }) s1.heap.objs.size a ((xs.length : Int) - 1 - ((0 : Nat) : Int)) := by
   rw [<- e0]; exact Heap.get?_push_size _ rfl
  have I2 : Inv X pins σ H1 { s1 with heap := s1.heap.push { cls := .type "reversed", data := .fields #[.ref a, rawInt (((its.toArray.size : Nat) : Int) - 1)] }, toks := s1.toks + 1 + 1 } := I1.kept fun b o e => Heap.get?_push_of_some _ e
  refine jb hr ⟨s1.heap.objs.size, [s1.heap.objs.size], _, _, H1, rfl, I2, JO a s1.heap.objs.size xs.length, hr, fun b hb => ?_, k _ _ _ R1 s1' t1 (UI qa la)⟩
  have e : b = s1.heap.objs.size := by simpa using hb
  rw [e]; exact kK I1 (g0o _)
end
section
variable {X : Cx} {e : Expr} {f : FE} {pos : Pos} {tg : Expr}
theorem jN (he : DE X e f) : DI X tg e (yj f) := by
 intro pins s σ H R I h
 obtain ⟨H₀, Hf₀, ρ, Hf, ds, R0, q, k⟩ := h
 obtain ⟨d, q3, q4⟩ := zP q
 refine thn (he pins s σ H (fun v H1 => ∃ Hf1, Rep X.K H₀ Hf₀ σ ρ H1 Hf1 /\ yp H H1 /\ yp Hf Hf1 /\ Has X.K Hf1 d v) I ⟨H₀, Hf₀, ρ, Hf, d, R0, q3, fun v H1 Hf1 R1 s1 t1 h1 => ⟨Hf1, R1, s1, t1, h1⟩⟩) fun u s1 ⟨v, H1, I1, r, Hf1, R1, s1', t1, h1⟩ => ?_
 cases d with
 | lst ds' =>
  cases q4
  obtain ⟨a, xs, rfl, qa, la⟩ := Has.lst_iff.mp h1
  cases r
  obtain ⟨its, rv, p, hz⟩ := I1.list (R1.sf.seq qa)
  refine wpAny_pyIter_list p.isList ?_
  refine ⟨s1.heap.objs.size, [s1.heap.objs.size], _, _, H1, rfl, I1.kept (t' := s1.toks) fun b o e => Heap.get?_push_of_some _ e, UK a _, ⟨_, Heap.get?_push_size _ rfl, rfl, rfl⟩, fun b hb => ?_, k _ _ _ R1 s1' t1 (Zq qa la)⟩
  have e : b = s1.heap.objs.size := by simpa using hb
  subst e
  exact I1.fpOk (g0o _) (I1.hok.fresh (g0o _))
 | tup ds' =>
  cases q4
  obtain ⟨a, xs, rfl, qa, la⟩ := Has.tup_iff.mp h1
  cases r
  obtain ⟨its, rv, p, hz⟩ := I1.tuple (ux R1.sf qa)
  refine wpAny_pyIter_tuple (show s1.heap.IsTuple a its.toArray from p) ?_
  refine ⟨s1.heap.objs.size, [s1.heap.objs.size], _, _, H1, rfl, I1.kept (t' := s1.toks) fun b o e => Heap.get?_push_of_some _ e, VO a _, ⟨_, Heap.get?_push_size _ rfl, rfl, rfl⟩, fun b hb => ?_, k _ _ _ R1 s1' t1 (YV qa la)⟩
  have e : b = s1.heap.objs.size := by simpa using hb
  subst e
  exact I1.fpOk (g0o _) (I1.hok.fresh (g0o _))
 | _ => cases q4
end
def jJ (k : NameKind) : Option NameKind -> Bool
 | some k' => k' == k
 | none => false
def GN (osc scope : Scope) (frees : List Str) : Bool :=
 scope.kind == .function && scope.names.all (fun y => !(y.2 == .cell)) && scope.names.all (fun y => !(y.2 == .local) || jJ .local (scope.names.lookup y.1)) &&
 scope.names.all (fun y => !(y.2 == .free) || (jJ .cell (osc.names.lookup y.1) || jJ .free (osc.names.lookup y.1))) &&
 frees.all (fun x => (jJ .cell (osc.names.lookup x) || jJ .free (osc.names.lookup x)) && jJ .free (scope.names.lookup x))
theorem vW {k : NameKind} {o : Option NameKind} (h : jJ k o = true) : o = some k := by
 unfold jJ at h
 split at h
 ·rw [eq_of_beq h]
 ·cases h
theorem CompScope.of {osc scope : Scope} {own frees : List Str} (h : GN osc scope frees = true) : CompScope osc scope own frees := by
 unfold GN at h
 simp only [g3a, List.all_eq_true] at h
 obtain ⟨⟨⟨⟨h1, h2⟩, h3⟩, h4⟩, h5⟩ := h
 refine ⟨eq_of_beq h1, fun y hy z => ?_, fun y hy z => ?_, fun y hy z => ?_, fun x hx => ?_⟩
 ·have := h2 y hy
  rw [z] at this
  simp at this
 ·have := h3 y hy
  rw [z] at this
  simp at this
  exact vW this
 ·have := h4 y hy
  rw [z] at this
  simp at this
  exact this.imp vW vW
 ·have := h5 x hx
  exact ⟨(by simpa using this.1 : _ \/ _).imp vW vW, vW this.2⟩
section
variable {X : Cx} {scope : Scope} {own frees : List Str} {caps : List Nat}
theorem Rep.lstFrz {K : W.Frag} {H₀ Hf₀ : Hp} {σ : St} {ρ : Rho} {H Hf H' Hf' : Hp} {a : Addr} {xs : List V} (R : Rep K H₀ Hf₀ σ ρ H Hf) (R' : Rep K H₀ Hf₀ σ ρ H' Hf') (ha : H' a = some (.lst xs)) (hn : Hf' a = none) (hh : H a = none) : Rep K H₀ Hf₀ σ ρ H' (upd Hf' a (.lst xs)) := by
 have sm : yp Hf' (upd Hf' a (.lst xs)) := zY hn
 refine ⟨R'.s0, fun b u z => ?_, fun b u z => ?_, R'.f0.trans sm, R'.len, fun i d z => ?_, fun i sl z o => ?_, R'.inj⟩
 ·by_cases hb : b = a
  ·subst hb; rw [zz] at z; cases z; exact ha
  ·rw [zw hb] at z; exact R'.sf b u z
 ·by_cases hb : b = a
  ·subst hb; exact .inr (.inl (R.s0.free hh))
  ·rw [zw hb] at z; exact R'.nf b u z
 ·obtain ⟨v, p1, p2⟩ := R'.fr i d z
  exact ⟨v, p1, p2.mono sm⟩
 ·obtain ⟨b, p1, p2, p3, p4⟩ := R.ow i sl z o
  obtain ⟨b', r1, r2, r3, r4⟩ := R'.ow i sl z o
  rw [p1] at r1; cases r1
  refine ⟨b, p1, r2.mono (fun u q => q) sm, ?_, r4⟩
  rw [zw]
  ·exact r3
  ·rintro rfl
   obtain ⟨o', q'⟩ := p2.there o
   rw [q'] at hh; cases hh
theorem jk {tg elt iter : Expr} {ifs : List Expr} {y : Str} {py pos spos : Pos} {fi : FA} {γ : FG} {ft : FT} {f : FE} (i : Nat) (hN : X.N.Nodup) (hc : X.calm = true) (S : CompScope X.env.scope scope own frees) (hcap : caps.map (fun j => X.N[j]?) = frees.map some) (kn : qt γ) (hi : DI X tg iter fi)
  (body : ∀ cl C s H fp, DG (cxC X scope cl C (own ++ frees) s H fp) tg γ /\ DQ (cxC X scope cl C (own ++ frees) s H fp) ifs ft /\ DE (cxC X scope cl C (own ++ frees) s H fp) elt f)
  (hsw : swapsWith (.ListComp elt [⟨tg, iter, ifs, 0⟩] scope pos) (some (.Name y py)) spos.line X.env = pure true := by rfl) (hiN : X.N[i]? = some y := by rfl) (hy : X.env.scope.names.lookup y = some .local := by rfl)
  (hs : ∀ x, foldedSetIterable iter X.env x = pure x := by intro _; rfl) : DS X (.Assign [.Name y py] (.ListComp elt [⟨tg, iter, ifs, 0⟩] scope pos) spos) (y4 i (y9 (u4 own.length caps fi γ ft f))) :=
 jF (VJ hc S hcap kn hi body hsw i hN hiN hy hs) fun D' σ H ⟨H₀, Hf₀, ρ, Hf, o, R, q, k⟩ => by
  obtain ⟨d, e1, e2⟩ := zP q
  cases e2
  unfold y9 at e1
  cases e3 : u4 own.length caps fi γ ft f ρ with
  | none => rw [e3] at e1; cases e1
  | some ds =>
   rw [e3] at e1
   cases e1
   refine ⟨H₀, Hf₀, ρ, Hf, ds, R, e3, fun a xs H1 Hf1 R1 s1 t1 h1 ha hn hh => ?_⟩
   have sm : yp Hf1 (upd Hf1 a (.lst xs)) := zY hn
   exact k _ _ _ ((R.lstFrz R1 ha hn hh).set i (Has.lst_iff.mpr ⟨a, xs, rfl, SqL.of zz, h1.mono sm⟩)) (t1.trans sm)
end
inductive GEnt (K : W.Frag) : List DictEntry -> List (Int × D) -> Prop
 | nil : GEnt K [] []
 | cons {k : Int} {t : Tok} {u : Value} {v : V} {d : D} {es : List DictEntry} {kvs : List (Int × D)} : hashInt k = k -> xK v u -> Has K (fun _ => none) d v -> GEnt K es kvs -> GEnt K (⟨k, .int k t, u⟩ :: es) ((k, d) :: kvs)
theorem GEnt.vals {K : W.Frag} : ∀ {es : List DictEntry} {kvs : List (Int × D)}, GEnt K es kvs -> ∃ vs : List (Int × Value), (∀ P w, (∀ e ∈ es, ∃ k, (intKind P w).is k e.key = true /\ e.hash = (intKind P w).hash k) /\ Pairs (intKind P w) es vs) /\ vs.map (·.1) = kvs.map (·.1) ∧
  ∀ k d, kvs.lookup k = some d -> ∃ u v, valueAt vs k = some u /\ xK v u /\ Has K (fun _ => none) d v
 | _, _, .nil => ⟨[], fun P w => ⟨fun e he => (by cases he), Pairs.nil⟩, rfl, fun k d e => (by simp at e)⟩
 | _, _, @GEnt.cons _ k t u v d es kvs hk r h g => by
  obtain ⟨vs, p1, p2, p3⟩ := g.vals
  have hi : Value.isInt k (.int k t) = true := by simp [Value.isInt]
  refine ⟨(k, u) :: vs, fun P w => ⟨fun e he => ?_, Pairs.cons hi rfl (p1 P w).2⟩, (by simp [p2]), fun k' d' e => ?_⟩
  ·rcases g0m.mp he with rfl | he
   ·exact ⟨k, hi, hk.symm⟩
   ·exact (p1 P w).1 e he
  ·rw [g1t] at e
   by_cases hkk : k' = k
   ·subst hkk
    simp at e
    subst e
    exact ⟨u, v, by simp [valueAt], r, h⟩
   ·have : (k' == k) = false := by simpa using hkk
    rw [this] at e
    obtain ⟨u', v', q1, q2, q3⟩ := p3 k' d' e
    refine ⟨u', v', ?_, q2, q3⟩
    unfold valueAt at q1 ⊢
    rw [List.find?_cons]
    have : decide (k = k') = false := by simpa using fun z : k = k' => hkk z.symm
    simp only [this]
    exact q1
theorem KI {K : W.Frag} {mg : Str -> Option Value} {x : Str} {kvs : List (Int × D)} {a : Addr} {es : List DictEntry} {ep : Nat} (h1 : mg x = some (.ref a)) (h2 : K.lookup a = some ⟨.type "dict", none, .dict es.toArray ep, #[]⟩) (g : GEnt K es kvs) (nd : (kvs.map (·.1)).Nodup) : GDict K mg x kvs := by
 obtain ⟨vs, p1, p2, p3⟩ := g.vals
 exact ⟨a, _, es.toArray, ep, vs, h1, h2, ⟨rfl, rfl, rfl⟩, rfl, fun P w => ⟨fun e he => (p1 P w).1 e (by simpa using he), (p1 P w).2⟩, by rw [p2]; exact nd, p3⟩
theorem uV {K : W.Frag} {ds : List D} {a : Addr} {xs : List V} {its : Array Value} {od : Option Addr} {n : Nat} {osl : Array (Option Value)} (h2 : K.lookup a = some ⟨.type "tuple", od, .seq its n, osl⟩) (hz : its.size <= sizeLine) (hv : xk xs its.toList) (hl : z7 K (fun _ => none) ds xs) : Has K (fun _ => none) (.tup ds) (.ref a) :=
 Has.tup_iff.mpr ⟨a, xs, rfl, .inr ⟨_, its, n, h2, rfl, rfl, hz, hv⟩, hl⟩
section
variable {ρ : Rho} {i j k : Nat} {f g h : FE} {fa ga : FA} {ft gt ht : FT} {F G B : FS} {γ : FG} {δ : FGs} {d x y : D} {ds : List D}
@[simp] theorem yh : vF i ρ = (match ρ[i]? with | some (.fr d) => some d | _ => none) := rfl
@[simp] theorem FQ : vR i ρ = (match ρ[i]? with | some (.fr d) => some d | some (.ol ds) => some (.lst ds) | _ => none) := rfl
@[simp] theorem yR : cF d ρ = some d := rfl
@[simp] theorem Ya {φ : D -> Option D} : uB φ f ρ = (f ρ).bind φ := rfl
@[simp] theorem zl {φ : D -> D -> Option D} : zc φ f g ρ = (f ρ).bind fun x => (g ρ).bind fun y => φ x y := rfl
@[simp] theorem zu : zB ρ = some [] := rfl
@[simp] theorem zm : zb f ga ρ = (f ρ).bind fun x => (ga ρ).bind fun xs => some (x :: xs) := rfl
@[simp] theorem wH : tupF ga ρ = (ga ρ).bind fun xs => if xs.length <= sizeLine then some (.tup xs) else none := rfl
@[simp] theorem Y9 : Xs ga ρ = (ga ρ).bind fun xs => if xs.length <= sizeLine then some xs else none := rfl
@[simp] theorem wJ : y9 fa ρ = (fa ρ).map D.lst := rfl
@[simp] theorem yd : blF f ρ = (f ρ).bind fun | .bl b => some b | _ => none := rfl
@[simp] theorem W4 : WI ft gt ρ = (ft ρ).bind fun b => if b = true then gt ρ else some false := rfl
@[simp] theorem vk : orT ft gt ρ = (ft ρ).bind fun b => if b = true then some true else gt ρ := rfl
@[simp] theorem xN : Wq ft ρ = (ft ρ).bind fun b => some (!b) := rfl
@[simp] theorem UZ : ttF ρ = some true := rfl
@[simp] theorem U6 : BF f g ρ = (f ρ).bind fun | .bl b => (if b = true then g ρ else some (.bl false)) | _ => none := rfl
@[simp] theorem FV : Fh f ρ = (f ρ).bind fun | .bl b => some (.bl (!b)) | _ => none := rfl
@[simp] theorem Ca : ifF ft f g ρ = (ft ρ).bind fun b => if b = true then f ρ else g ρ := rfl
@[simp] theorem zy {φ : List D -> Option D} : z5 φ fa ρ = (fa ρ).bind φ := rfl
@[simp] theorem zS : yq F G ρ = (F ρ).bind fun o => match o with | .nx ρ' => G ρ' | o => some o := rfl
@[simp] theorem xv : nxF ρ = some (.nx ρ) := rfl
@[simp] theorem zT : yY f ρ = (f ρ).bind fun d => some (.rt d) := rfl
@[simp] theorem yv : ifS ft F G ρ = (ft ρ).bind fun b => if b = true then F ρ else G ρ := rfl
@[simp] theorem z9 : y4 i f ρ = (f ρ).bind fun d => some (.nx (ρ.set i (.fr d))) := rfl
@[simp] theorem Xa : BE i fa ρ = (fa ρ).bind fun ds => some (.nx (ρ.set i (.ol ds))) := rfl
@[simp] theorem U3 : C0 i F ρ = (frz i ρ).bind F := rfl
@[simp] theorem G4 : frz i ρ = (match ρ[i]? with | some (.ol ds) => some (ρ.set i (.fr (.lst ds))) | some (.fr _) => some ρ | _ => none) := rfl
@[simp] theorem yN : zQ i d ρ = some (ρ.set i (.fr d)) := rfl
@[simp] theorem kj : YO [] ρ = some ρ := rfl
@[simp] theorem qj {r : List D} : y7 γ δ (d :: r) ρ = (γ d ρ).bind fun ρ' => δ r ρ' := rfl
@[simp] theorem ki : Zs k δ (.tup ds) ρ = if ds.length = k then δ ds ρ else none := rfl
@[simp] theorem Xb : uO i f ρ = (f ρ).bind fun d => match ρ[i]? with | some (.ol ds) => if ds.length < sizeLine then some (.nx (ρ.set i (.ol (ds ++ [d])))) else none | _ => none := rfl
@[simp] theorem wg : Zj fa γ B ρ = (fa ρ).bind fun ds => y6 γ B ds ρ := rfl
@[simp] theorem Z9 : qI f ρ = (yj f ρ).bind fun ds => some (x4 ds) := rfl
@[simp] theorem W3 : ZK f g ρ = (yj f ρ).bind fun xs => (yj g ρ).bind fun ys => some (WR xs ys) := rfl
@[simp] theorem J0 : QV f ρ = (f ρ).bind fun | .tup ds => some ds.reverse | _ => none := rfl
@[simp] theorem yU : yj f ρ = (f ρ).bind ke := rfl
@[simp] theorem U1 : ke (.lst ds) = some ds := rfl
@[simp] theorem BU : ke (.tup ds) = some ds := rfl
@[simp] theorem JY : noP ρ = some none := rfl
@[simp] theorem U4 : exP f ρ = (f ρ).bind fun | .int i => some (some i) | _ => none := rfl
@[simp] theorem qA {l u : FP} : yg f l u ρ = (f ρ).bind fun x => (l ρ).bind fun lo => (u ρ).bind fun hi => match x with | .tup ds => some (.tup (qS ds lo hi)) | .lst ds => some (.lst (qS ds lo hi)) | _ => none := rfl
@[simp] theorem BX : D3 f g ρ = (f ρ).bind fun x => (g ρ).bind fun y => match x, y with | .lst ds, .int i => if i = -1 then some ds.reverse else none | _, _ => none := rfl
@[simp] theorem U5 {n : Nat} {caps : List Nat} {fi : FA} : u4 n caps fi γ ft f ρ = (fi ρ).bind fun ds => if ds.length <= sizeLine then xh γ ft f ds (uh n caps ρ) else none := rfl
@[simp] theorem G5 {n : Nat} {caps : List Nat} : uh n caps ρ = g0i n .no ++ caps.map (Dg ρ) := rfl
@[simp] theorem Cb : Dg ρ j = (match ρ[j]? with | some (.fr d) => .fr d | _ => .no) := rfl
@[simp] theorem u6 : W6 fa ρ = (fa ρ).bind vT := rfl
@[simp] theorem BV : Ce fa ρ = (fa ρ).bind jD := rfl
theorem xO {j : Int} (h1 : -1000000 <= j) (h2 : j <= 1000000) : vT [.int j] = some (yk 0 j) := by
 show @ite _ (-(2 ^ 62) <= j /\ j < 2 ^ 62) (Classical.propDecidable _) (some (yk 0 j)) none = _
 rw [if_pos (by omega)]
theorem Xc {i j : Int} (h1 : -1000000 <= i) (h2 : i <= 1000000) (h3 : -1000000 <= j) (h4 : j <= 1000000) : jD [.int i, .int j] = some (yk i j) := by
 show @ite _ (-(2 ^ 62) <= i /\ i < 2 ^ 62 /\ -(2 ^ 62) <= j /\ j < 2 ^ 62) (Classical.propDecidable _) (some (yk i j)) none = _
 rw [if_pos (by omega)]
@[simp] theorem yx {φ ψ : D -> D -> Option D} : uM φ ψ f g h ρ = (f ρ).bind fun x => (g ρ).bind fun y => (φ x y).bind fun | .bl true => (h ρ).bind fun z => ψ y z | .bl false => some (.bl false) | _ => none := rfl
@[simp] theorem zU : uv k F ds = JE (F (jz k ds)) := rfl
@[simp] theorem z8 : JE (some (.rt d)) = some d := rfl
@[simp] theorem FR : JE (some (.nx ρ)) = some .non := rfl
@[simp] theorem zt : jz k ds = ds.map Slot.fr ++ g0i (k - ds.length) Slot.no := rfl
variable {a b : Int}
@[simp] theorem U0 : Ga (.int a) (.int b) = some (.int (a - b)) := rfl
@[simp] theorem ud : yJ (.int a) (.int b) = some (.int (a + b)) := rfl
@[simp] theorem jQ : ltD (.int a) (.int b) = some (.bl (decide (a < b))) := rfl
@[simp] theorem Z7 : leD (.int a) (.int b) = some (.bl (decide (a <= b))) := rfl
@[simp] theorem MV : gtD (.int a) (.int b) = some (.bl (decide (b < a))) := rfl
@[simp] theorem G3 : geD (.int a) (.int b) = some (.bl (decide (b <= a))) := rfl
@[simp] theorem G0 : Ko (.int a) = some (.int (-a)) := rfl
@[simp] theorem wj : eqF (.int a) (.int b) = some (.bl (decide (a = b))) := Bb
@[simp] theorem JZ : neF (.int a) (.int b) = some (.bl (!decide (a = b))) := HE
@[simp] theorem ME : isD k' .non .non = some (.bl (!k')) := rfl
@[simp] theorem BY : BA [.int a, .int b] = some (.int (if b < a then b else a)) := rfl
@[simp] theorem BZ : BB [.int a, .int b] = some (.int (if b > a then b else a)) := rfl
@[simp] theorem MF : GA [.int a] = some (.int a) := rfl
@[simp] theorem Ma {b : Bool} : GA [.bl b] = some (.int (if b then 1 else 0)) := rfl
@[simp] theorem FY : Zi [.lst ds] = some (.int ds.length) := rfl
@[simp] theorem FX : Zi [.tup ds] = some (.int ds.length) := rfl
@[simp] theorem JX : jy [.lst ds] = some (.tup ds) := rfl
@[simp] theorem MD : jy [.tup ds] = some (.tup ds) := rfl
@[simp] theorem FZ {T : String} : Gz T d = some (.bl (Wc (tyN d) T)) := rfl
end
theorem ui {n : Nat} {caps : List Nat} {fi : FA} {γ : FG} {ft : FT} {f : FE} {ρ : Rho} {ds : List D} (h : fi ρ = some ds) (hz : ds.length <= sizeLine) : u4 n caps fi γ ft f ρ = xh γ ft f ds (uh n caps ρ) := by
 rw [U5, h, g0a, if_pos hz]
theorem K3 {f : FE} {C : List Slot} {φ : Nat -> D} : ∀ (ds : List D) (n : Nat) (s : Slot), (∀ k d, ds[k]? = some d -> f (.fr d :: C) = some (φ (n + k))) -> xh (zQ 0) ttF f ds (s :: C) = some ((g1f ds.length).map fun k => φ (n + k))
 | [], _, _, _ => rfl
 | d :: ds, n, s, h => by
  have h0 := h 0 d rfl
  have ih := K3 (f := f) (C := C) (φ := φ) ds (n + 1) (.fr d) (fun k d' e => by rw [h (k + 1) d' (by simpa using e)]; congr 2; omega)
  unfold xh
  simp only [yN, g0e, g0a, UZ, if_true, h0, ih, Nat.add_zero]
  rw [g0d, g2b, g0j, g1o]
  congr 3
  funext k
  simp only [Function.comp]
  congr 1
  omega
theorem Bn {f : FE} {C : List Slot} {φ : Nat -> D} : ∀ (ds : List D) (n : Nat) (s s' : Slot), (∀ k d, ds[k]? = some d -> ∃ x y, d = .tup [x, y] /\ f (.fr x :: .fr y :: C) = some (φ (n + k))) →
  xh (Zs 2 (y7 (zQ 0) (y7 (zQ 1) YO))) ttF f ds (s :: s' :: C) = some ((g1f ds.length).map fun k => φ (n + k))
 | [], _, _, _, _ => rfl
 | d :: ds, n, s, s', h => by
  obtain ⟨x, y, rfl, h0⟩ := h 0 d rfl
  have ih := Bn (f := f) (C := C) (φ := φ) ds (n + 1) (.fr x) (.fr y) (fun k d' e => by
   obtain ⟨x', y', e1, e2⟩ := h (k + 1) d' (by simpa using e)
   exact ⟨x', y', e1, by rw [e2]; congr 2; omega⟩)
  unfold xh
  simp only [ki, qj, yN, kj, g0d, g0g, if_true, g0e, g0h, g0a, UZ, h0, ih, Nat.add_zero]
  rw [g2b, g0j, g1o]
  congr 3
  funext k
  simp only [Function.comp]
  congr 1
  omega
theorem uq : fillsNumberSlot (.type "tuple") "mul" = pure false :=
 PySem.fillsNumberSlot_seq (id := "tuple.__mul__") (r := some (.builtin "tuple.__rmul__")) F.slot_tuple_mul.lookup (by decide +kernel) F.slot_tuple_rmul.lookup (by decide +kernel)
theorem jB : seqRepeat? (.type "tuple") = pure (some (.builtin "tuple.__mul__")) := by
 unfold seqRepeat?
 rw [PySem.seqSlot_of (T := "tuple") (name := "__mul__") (id := "tuple.__mul__") F.slot_tuple_mul.lookup (by decide +kernel), PySem.seqSlot_of (T := "tuple") (name := "__rmul__") (id := "tuple.__rmul__") F.slot_tuple_rmul.lookup (by decide +kernel)]
 rfl
open PySem.AutoSeq1 (wpAny_loadPart') in
theorem qf (a : Int) (t : Tok) (l : Addr) (items : Array Value) (n : Nat) (dd : Option Addr) (sl : Array (Option Value)) :
  Meets (Builtin.«int.__rmul__» ⟨[.int a t, .ref l], []⟩) (fun _ R s => s.heap.get? l = some { cls := .type "tuple", dict := dd, data := .seq items n, slots := sl } /\ R (.ok (.ret Value.notImplemented)) s) :=
 .of_wp fun prog w A R s h => by
  obtain ⟨hp, g, d, tk, os⟩ := s; obtain ⟨hl, h⟩ := h
  wp_walk using wpAny_loadPart' hl
  exact ⟨_, rfl, h⟩
open PySem.AutoSeq1 (wpAny_loadPart') in
theorem VR (l : Addr) (items : Array Value) (n : Nat) (dd : Option Addr) (sl : Array (Option Value)) (u : Tok) :
  Meets (Builtin.«tuple.__mul__» ⟨[.ref l, .int 1 u], []⟩) (fun _ R s => s.heap.get? l = some { cls := .type "tuple", dict := dd, data := .seq items n, slots := sl } /\ R (.ok (.ret (.ref l))) s) :=
 .of_wp fun prog w A R s h => by
  obtain ⟨hp, g, d, tk, os⟩ := s; obtain ⟨hl, h⟩ := h
  have f1 := AutoSeq1.idx_int
  wp_walk using wpAny_loadPart' hl
  exact ⟨_, rfl, h⟩
open PySem.AutoSeq1 (wpAny_loadPart') in
theorem VQ (l : Addr) (items : Array Value) (n : Nat) (dd : Option Addr) (sl : Array (Option Value)) (k : Int) (u : Tok) (hne : items.isEmpty = false) (h2 : 2 <= k) (h3 : k < 2 ^ 63) (hsz : items.size * k.toNat <= sizeLine) :
  Meets (Builtin.«tuple.__mul__» ⟨[.ref l, .int k u], []⟩) (fun _ R s => s.heap.get? l = some { cls := .type "tuple", dict := dd, data := .seq items n, slots := sl } /\ R (.ok (.ret (.ref s.heap.objs.size))) { s with heap := s.heap.push { cls := .type "tuple", data := .seq (List.foldl (fun x1 x2 => x1 ++ x2) #[] (g0i k.toNat items)) } }) :=
 .of_wp fun prog w A R s h => by
  obtain ⟨hp, g, d, tk, os⟩ := s; obtain ⟨hl, h⟩ := h
  have f1 := AutoSeq1.idx_int
  wp_walk using wpAny_loadPart' hl
  have hk : ¬ (decide (k < -2 ^ 63) || decide (k ≥ 2 ^ 63)) = true := by
   rw [Bool.or_eq_true, decide_eq_true_eq, decide_eq_true_eq]
   omega
  rw [if_neg hk]
  show wpAny _ _ (Builtin.Tuple.tupleItemsOf (.ref l) >>= _) _ _ _
  refine wpAny_bind (tupleItemsOf_ (items := items) ⟨_, hl, rfl, n, rfl⟩ ?_)
  have h1 : ¬ (items.isEmpty || k == 1) = true := by
   rw [hne, Bool.false_or, beq_iff_eq]
   omega
  show wpAny _ _ (if (items.isEmpty || k == 1) = true then _ else _) _ _ _
  rw [if_neg h1]
  have h0 : ¬ (decide (k <= 0) || items.isEmpty) = true := by
   rw [hne, Bool.or_false, decide_eq_true_eq]
   omega
  show wpAny _ _ (if (decide (k <= 0) || items.isEmpty) = true then _ else _) _ _ _
  rw [if_neg h0]
  have hn : (items.size : Int) * k = ((items.size * k.toNat : Nat) : Int) := by
   rw [Int.natCast_mul, Int.toNat_of_nonneg (by omega)]
  have hl24 : sizeLine = 16777216 := sizeLine_eq
  have h4 : ¬ ((items.size : Int) * k > (2 ^ 63 - 1) / 8) := by rw [hn]; omega
  show wpAny _ _ (if (items.size : Int) * k > (2 ^ 63 - 1) / 8 then _ else _) _ _ _
  rw [if_neg h4]
  have h5 : ¬ (Builtin.Tuple.tupleTooMany ((items.size : Int) * k) = true) := by
   unfold Builtin.Tuple.tupleTooMany
   rw [decide_eq_true_eq, hn]
   omega
  show wpAny _ _ (if Builtin.Tuple.tupleTooMany ((items.size : Int) * k) = true then _ else _) _ _ _
  rw [if_neg h5]
  have hso : sizeOk (.seq (List.foldl (fun x1 x2 => x1 ++ x2) #[] (g0i k.toNat items))) := by
   show (List.foldl (fun x1 x2 => x1 ++ x2) #[] (g0i k.toNat items)).size <= sizeLine
   have gen : ∀ (m : Nat) (acc : Array Value), (List.foldl (fun x1 x2 => x1 ++ x2) acc (g0i m items)).size = acc.size + items.size * m := by
    intro m
    induction m with
    | zero => intro acc; simp
    | succ m ih => intro acc; rw [g1r, List.foldl_cons, ih, Array.size_append, Nat.mul_succ]; omega
   rw [gen]
   simpa using hsz
  exact wpAny_bind (m := Builtin.Tuple.tupleExact _) (wpAny_newObj_type (wpAny_pure ⟨_, rfl, h⟩) hso)
section
variable {X : Cx}
def Ci (K : W.Frag) : R2 := fun x y H Q => ∃ a k xs, x = .ref a /\ y = .int k /\ SqT K H a xs /\ xs ≠ [] /\ 1 <= k /\ xs.length * k.toNat <= sizeLine /\ (k = 1 -> Q (.ref a) H) /\ (k ≠ 1 -> ∀ p, H p = none -> Q (.ref p) (upd H p (.tup (g0i k.toNat xs).flatten)))
theorem Hn : OpR X (binaryOp .Mult) (Ci X.K) := by
 intro pins s σ H x y v u Q I rx ry h
 obtain ⟨a, k, xs, rfl, rfl, ha, hne, hk, hz, q1, q2⟩ := h
 cases rx
 obtain ⟨t, rfl⟩ := ry
 obtain ⟨its, r, p, hz'⟩ := I.tuple ha
 have hlen := r.length
 obtain ⟨⟨cls, dd, data, sl⟩, ho, hc, n, hd⟩ := id p
 simp only at hc hd
 subst hc hd
 by_cases h1 : k = 1
 ·subst h1
  exact wpAny_binaryOp_repeat_ref (T := "tuple") (U := "int") (by decide) ⟨_, ho, rfl⟩ (fun s' => typeIs_int s' 1 t) uq F.fills_int_mul F.slot_int_rmul jB F.slot_int_index.lookup
   (call_meets F.slot_int_rmul (typeIs_int s 1 t) F.entry_int_rmul (F.args_int_rmul_2 _ _) (qf 1 t a its.toArray n dd sl)
    ⟨ho, rfl, ⟨_, ho, rfl⟩, call_meets F.slot_tuple_mul ⟨_, ho, rfl⟩ F.entry_tuple_mul (F.args_tuple_mul_2 _ _) (VR a its.toArray n dd sl t) ⟨ho, .ref a, H, I, rfl, q1 rfl⟩⟩)
 ·have hsz : its.toArray.size * k.toNat <= sizeLine := by rw [g0u, <- hlen]; exact hz
  have hne' : its.toArray.isEmpty = false := by
   cases its with
   | nil => cases r; exact absurd rfl hne
   | cons _ _ => rfl
  have h63 : k < 2 ^ 63 := by
   have l1 : 1 <= xs.length := by
    cases xs with
    | nil => exact absurd rfl hne
    | cons _ _ => simp
   have l2 : k.toNat <= xs.length * k.toNat := Nat.le_mul_of_pos_left _ l1
   have : sizeLine = 16777216 := sizeLine_eq
   omega
  have hnew : List.foldl (fun x1 x2 => x1 ++ x2) #[] (g0i k.toNat its.toArray) = (g0i k.toNat its).flatten.toArray := by
   have := Xz its k.toNat []
   rw [g0p] at this
   exact this
  refine wpAny_binaryOp_repeat_ref (T := "tuple") (U := "int") (by decide) ⟨_, ho, rfl⟩ (fun s' => typeIs_int s' k t) uq F.fills_int_mul F.slot_int_rmul jB F.slot_int_index.lookup
   (call_meets F.slot_int_rmul (typeIs_int s k t) F.entry_int_rmul (F.args_int_rmul_2 _ _) (qf k t a its.toArray n dd sl)
    ⟨ho, rfl, ⟨_, ho, rfl⟩, call_meets F.slot_tuple_mul ⟨_, ho, rfl⟩ F.entry_tuple_mul (F.args_tuple_mul_2 _ _) (VQ a its.toArray n dd sl k t hne' (by omega) h63 hsz) ⟨ho, ?_⟩⟩)
  rw [hnew]
  refine ⟨.ref s.heap.objs.size, _, I.laid (t' := s.toks) (o := .tup (g0i k.toNat xs).flatten) (fun b ob q => Heap.get?_push_of_some _ q) (g0o _) ?_, rfl, q2 h1 _ (I.hok.fresh (g0o _))⟩
  exact ⟨by rw [HP, Nat.mul_comm]; exact hz, _, r.rep k.toNat, IsTup.new _ _⟩
def Kp : D -> D -> Option D
 | .int i, .int j => uz (.int i) (.int j)
 | .tup (d :: ds), .int k => if 1 <= k /\ (ds.length + 1) * k.toNat <= sizeLine then some (.tup (g0i k.toNat (d :: ds)).flatten) else none
 | _, _ => none
theorem z7.rep {K : W.Frag} {H : Hp} {ds : List D} {xs : List V} (h : z7 K H ds xs) : ∀ k : Nat, z7 K H (g0i k ds).flatten (g0i k xs).flatten
 | 0 => .nil
 | k + 1 => by
  rw [g1r, g1r, g2k, g2k]
  exact h.append (z7.rep h k)
theorem Kg : OpD X (fun x y H Q => rI Uz (fun i j => .int (i * j)) x y H Q \/ Ci X.K x y H Q) Kp := by
 intro σ ρ H₀ Hf₀ H Hf x y dx dy d Q R hx hy hφ k
 unfold Kp at hφ
 split at hφ
 ·exact .inl (Qr σ ρ H₀ Hf₀ H Hf x y _ _ d Q R hx hy hφ k)
 ·split at hφ
  ·cases hφ
   rename_i e ds j hz
   obtain ⟨a, xs, rfl, qa, la⟩ := hx.tup R
   have hl := la.length
   refine .inr ⟨a, j, xs, rfl, hy.int, qa, fun z => ?_, hz.1, by rw [hl]; exact hz.2, fun e1 => ?_, fun e1 p hp => ?_⟩
   ·rw [z] at hl; simp at hl
   ·subst e1
    exact k _ _ _ R zv zv (by simpa using hx.tupF)
   ·have sm := zY (o := .tup (g0i j.toNat xs).flatten) (R.sf.free hp)
    exact k _ _ _ (R.lay hp) (zY hp) sm (Has.tup_iff.mpr ⟨p, _, rfl, SqT.of zz, (z7.rep la j.toNat).mono sm⟩)
  ·cases hφ
 ·cases hφ
theorem GK {a b : Expr} {f g : FE} {pos : Pos} (ha : DR X a f) (hb : DR X b g) : DE X (.BinOp a .Mult b pos) (zc Kp f g) := Bi (Qn.or Hn) Kg ha hb
@[simp] theorem FW {i j : Int} : Kp (.int i) (.int j) = uz (.int i) (.int j) := rfl
end
theorem XY : ∀ {bs : List Bool} {us : List Value}, xk (bs.map V.bl) us -> LSm.BoolsAre us bs
 | [], _, r => by cases r; exact .nil
 | b :: bs, _, r => by
  rw [g0j] at r
  cases r with
  | cons r1 r2 => cases r1; exact .cons b (XY r2)
variable {X : Cx}
theorem K5 (hc : X.calm = true) : uC X (.builtin "all") (fun xs H Q => ∃ (p : Addr) (bs : List Bool), xs = [.ref p] /\ SqL X.K H p (bs.map V.bl) /\ Q (.bl (bs.all id)) H) := by
 intro pins s σ H xs us Q I r h
 obtain ⟨p, bs, rfl, hq, q⟩ := h
 obtain ⟨u, rfl, rx⟩ := VN r
 cases rx
 obtain ⟨its, r', pl, hz⟩ := I.list hq
 have hb := XY r'
 have hl := pl.isList
 have hlt : p < s.heap.objs.size := by obtain ⟨_, e, _⟩ := hl; exact Heap.lt_size e
 refine call_all_walk (wpAny_pyIter_list hl ?_)
 refine ⟨s.heap.objs.size, [s.heap.objs.size, p], [s.heap.objs.size], its.toArray.size, _, _, fun i => (bs[i]?).getD true, rfl, PySem.Walks.list (A := X.A.in1) (I.ok.hd hc) _ p (g1b hlt) its.toArray,
  ⟨⟨_, Heap.get?_push_size _ rfl, rfl, rfl⟩, hl.push _⟩, fun i v s' Q' E' hP hQ => ?_, fun h' tk hk => ?_⟩
 ·obtain ⟨b, e, rfl⟩ := hb.get i v (by simpa using hP)
  simp only [e, g3c] at hQ
  exact wpAny_truthy_bool hQ
 ·have e : ((g1f its.toArray.size).all fun i => (bs[i]?).getD true) = bs.all id := by
   rw [g0u, hb.length]; exact LSm.range_all bs
  rw [e]
  exact ⟨.bl (bs.all id), H, I.kept (LSm.kept_iter hk), rfl, q⟩
def uN : List D -> Option (List Bool)
 | [] => some []
 | .bl b :: ds => (uN ds).map (b :: ·)
 | _ :: _ => none
theorem z7.bools {K : W.Frag} {H : Hp} : ∀ {ds : List D} {xs : List V} {bs : List Bool}, z7 K H ds xs -> uN ds = some bs -> xs = bs.map V.bl
 | [], [], bs, h, e => by cases e; rfl
 | [], _ :: _, bs, h, e => by have := h.length; cases this
 | _ :: _, [], bs, h, e => by have := h.length; cases this
 | .bl b :: ds, x :: xs, bs, h, e => by
  unfold uN at e
  cases e' : uN ds with
  | none => rw [e'] at e; cases e
  | some cs =>
   rw [e'] at e
   cases e
   obtain ⟨_, _, e0, h1, h2⟩ := z7.cons_iff.mp h
   cases e0
   rw [Has.bl_iff.mp h1, z7.bools h2 e']
   rfl
 | .non :: _, _ :: _, _, _, e => by cases e
 | .int _ :: _, _ :: _, _, _, e => by cases e
 | .str _ :: _, _ :: _, _, _, e => by cases e
 | .tup _ :: _, _ :: _, _, _, e => by cases e
 | .lst _ :: _, _ :: _, _, _, e => by cases e
def Dw : List D -> Option D
 | [.lst ds] => (uN ds).map fun bs => .bl (bs.all id)
 | _ => none
theorem HZ : FnR X (fun xs H Q => ∃ (p : Addr) (bs : List Bool), xs = [.ref p] /\ SqL X.K H p (bs.map V.bl) /\ Q (.bl (bs.all id)) H) Dw := by
 intro σ ρ H₀ Hf₀ H Hf xs ds d Q R hx hφ k
 unfold Dw at hφ
 split at hφ
 ·obtain ⟨bs, e1, rfl⟩ := Option.map_eq_some_iff.mp hφ
  obtain ⟨v, rfl, hv⟩ := hx.one
  obtain ⟨a, ys, rfl, q, l⟩ := hv.lst R
  have := l.bools e1
  subst this
  exact ⟨a, bs, rfl, q, k _ _ _ R zv zv (Has.bl_iff.mpr rfl)⟩
 ·cases hφ
theorem kZ : ∀ bs : List Bool, uN (bs.map D.bl) = some bs
 | [] => rfl
 | b :: bs => by rw [g0j, uN, kZ bs]; rfl
@[simp] theorem D0 (bs : List Bool) : Dw [.lst (bs.map D.bl)] = some (.bl (bs.all id)) := by show (uN (bs.map D.bl)).map _ = _; rw [kZ]; rfl
theorem QA : typeLookup (.type "reversed") "__len__" = pure none := by rw [typeLookup_type, builtinLookup_eq_fast]; kernel_rfl
theorem v7 : PySem.Slot "reversed" "__length_hint__" "reversed.__length_hint__" :=
 .of (owner := "reversed") (n := "__length_hint__") (by rw [typeLookup_type, builtinLookup_eq_fast]; kernel_rfl) (by decide +kernel) (by decide +kernel) (by decide +kernel)
  (by first | exact .inl (by decide +kernel) | exact .inr (by decide +kernel)) (by rw [isSubtype_type]; kernel_rfl)
theorem Zl : entryFor table "reversed.__length_hint__" = some Builtin.«reversed.__length_hint__» := entryFor_of_tree (by kernel_rfl)
theorem YH (a : Value) : argsOk "reversed.__length_hint__" ⟨[a], []⟩ := by
 unfold argsOk; rw [signature?_of (id := "reversed.__length_hint__") (n := "__length_hint__".toList.reverse) (o := ['d', 'e', 's', 'r', 'e', 'v', 'e', 'r']) (by kernel_rfl) ku]; kernel_rfl
section
variable {prog : Program} {w : World} {A : Around} {E : Value -> Shared -> Prop} {s : Shared}
theorem U8 (hh : A.handled = none) (r t : Addr) (hne : t ≠ r) (items : Array Value) (hz : items.size <= sizeLine) : WalksS prog w A r [r, t] [r] (fun a b => a = b) items.size (fun i v => items.toList.reverse[i]? = some v) (fun i s => qu s.heap r t ((items.size : Int) - 1 - i) /\ IsTup s.heap t items) where
 sub := fun b hb => by simp at hb; simp [hb]
 grefl := fun _ => rfl
 gtrans := fun _ _ _ h h' => h.trans h'
 frame := fun i s h' tk st _ hk => ⟨hk r (by simp) _ st.1, by
  obtain ⟨o, ho, hc, n, hd⟩ := st.2
  exact ⟨o, hk t (by simp) o ho, hc, n, hd⟩⟩
 item := fun i s Q E hi st hQ => by
  obtain ⟨st, ht⟩ := st
  have hT : s.TypeIs (.ref r) "reversed" := ⟨_, st, rfl⟩
  have hk : ((items.size : Int) - 1 - i) = ((items.size - 1 - i : Nat) : Int) := by omega
  rw [hk] at st
  have hx : items[items.size - 1 - i]? = some items[items.size - 1 - i] := by simp
  unfold pyNext
  refine wpAny_bind (wpAny_attempt (wpAny_callSpecial?_slot (name := Str.ofString "__next__") hT yw (wpAny_call_entry yw hT x9
   (qC st ht hx hz fun h' st' sb => wpAny_pure ?_) (wO _))))
  refine hQ _ _ ?_ ⟨?_, ?_⟩ ⟨fun b o hb e => sb.2 b (by simpa using hb) ▸ e, rfl, rfl, rfl, Nat.le_succ _⟩
  ·rw [g2v (by simpa using hi)]
   simp
  ·have e : ((items.size : Int) - 1 - ((i + 1 : Nat) : Int)) = ((items.size - 1 - i : Nat) : Int) - 1 := by omega
   show qu h' r t ((items.size : Int) - 1 - ((i + 1 : Nat) : Int))
   rw [e]
   exact st'
  ·obtain ⟨o, ho, hc, n, hd⟩ := ht
   exact ⟨o, (sb.2 t hne).trans ho, hc, n, hd⟩
 done := fun s Q E st hQ => by
  obtain ⟨st, ht⟩ := st
  have hT : s.TypeIs (.ref r) "reversed" := ⟨_, st, rfl⟩
  unfold pyNext
  refine wpAny_bind (wpAny_attempt (wpAny_callSpecial?_slot (name := Str.ofString "__next__") hT yw (wpAny_call_entry yw hT x9
   (jH (show A.in1.handled = none from hh) st (by omega) fun h' e eb ⟨o, ho, hcl⟩ => ?_) (wO _))))
  refine wpAny_bind (wpAny_isInstance (T := "StopIteration") (b := true) ⟨o, ho, hcl⟩ isSubtype_stop ?_)
  exact wpAny_pure (hQ _ ⟨fun b o hb e => eb b o (by simpa using hb) e, rfl, rfl, rfl, g0o _⟩)
 self := fun i s Q E st h => jb st.1 h
theorem KB {r t : Addr} {items : Array Value} {Q : Value -> Shared -> Prop} (hr : qu s.heap r t ((items.size : Int) - 1)) (ht : IsTup s.heap t items) (hz : items.size <= sizeLine)
  (h : ∀ u tk, s.toks <= tk -> Q (.int (items.size : Int) u) { s with toks := tk }) : wpAny (model prog w) A (call (.builtin "reversed.__length_hint__") [.ref r]) Q E s := by
 have hn := qe
 have hT : s.TypeIs (.ref r) "reversed" := ⟨_, hr, rfl⟩
 refine wpAny_call_entry v7 hT Zl ?_ (YH _)
 show wpAny _ _ (field (.ref r) 0 >>= _) _ _ _
 refine wpAny_bind (wpAny_field hr rfl (x := .ref t) rfl ?_)
 show wpAny _ _ (if ((Value.ref t == Value.none) = true) then _ else _) _ _ _
 rw [if_neg (show ¬ ((Value.ref t == Value.none) = true) from g1q)]
 refine wpAny_bind (len_tuple ht (by omega) ?_)
 refine wpAny_bind (wpAny_of_eq (a := some (items.size : Int)) rfl ?_)
 try dsimp only
 refine wpAny_bind (wpAny_field (s := { s with toks := s.toks + 1 + 1 }) hr rfl (x := rawInt ((items.size : Int) - 1)) rfl ?_)
 show wpAny _ _ (if ((items.size : Int) < (items.size : Int) - 1 + 1) then _ else _) _ _ _
 rw [if_neg (by omega)]
 have e : (items.size : Int) - 1 + 1 = (items.size : Int) := by omega
 rw [e]
 exact wpAny_bind (wpAny_mkInt (wpAny_pure ⟨_, rfl, h _ _ (by show s.toks <= s.toks + 1 + 1 + 1; omega)⟩))
theorem WE (hh : A.handled = none) {r t : Addr} (hne : t ≠ r) {items : Array Value} {Q : List Value -> Shared -> Prop} (hr : qu s.heap r t ((items.size : Int) - 1)) (ht : IsTup s.heap t items) (hz : items.size <= sizeLine)
  (hQ : ∀ s', Moved [r] (fun a b => a = b) s s' -> Q items.toList.reverse s') : wpAny (model prog w) A (collect (.ref r)) Q E s := by
 have W := U8 (prog := prog) (w := w) (A := A.in1) hh r t hne items hz
 have hst : (fun i (s : Shared) => qu s.heap r t ((items.size : Int) - 1 - i) /\ IsTup s.heap t items) 0 s := ⟨by simpa using hr, ht⟩
 have hT : ∀ (s : Shared), qu s.heap r t ((items.size : Int) - 1 - ((0 : Nat) : Int)) /\ IsTup s.heap t items -> s.TypeIs (.ref r) "reversed" := fun s st => ⟨_, st.1, rfl⟩
 have hfp : ∀ b ∈ [r, t], b < s.heap.objs.size := fun b hb => by
  simp only [g0m, List.not_mem_nil, or_false] at hb
  rcases hb with rfl | rfl
  ·exact Heap.lt_size hr
  ·obtain ⟨o, ho, _⟩ := ht; exact Heap.lt_size ho
 have hSf : s.heap.objs.size ∉ [r, t] := fun hm => g2x _ (hfp _ hm)
 have hSI : s.heap.objs.size ≠ r := fun e => hSf (by simp [e])
 unfold collect
 refine wpAny_bind (wpAny_runValue (codeAny_builtin F.entry_proto_collect ?_))
 rw [Around.under_plainId F.plain_proto_collect _]
 show wpAny _ A.in1 (newList [] >>= fun l => again (.builtin "list.__iadd__" ⟨[l, .ref r], []⟩)) _ _ s
 refine wpAny_bind (wpAny_newObj_type ?_)
 refine wpAny_pure ⟨plainId_quiet F.plain_list_iadd _, codeAny_builtin F.entry_list_iadd ?_⟩
 rw [Around.under_plainId F.plain_list_iadd _]
 have hst₁ := W.frame 0 s (s.heap.push { cls := .type "list", data := .seq ([] : List Value).toArray }) s.toks hst (g0o _) fun b _ o e => Heap.get?_push_of_some _ e
 have h1 : Builtin.List.listSameRef (.ref s.heap.objs.size) (.ref r) = false := by simp [Builtin.List.listSameRef, hSI]
 show wpAny _ A.in1 (Builtin.List.listExtendWith (.ref s.heap.objs.size) (.ref r) (.ref s.heap.objs.size)) _ _ _
 unfold Builtin.List.listExtendWith
 refine wpAny_bind (wpAny_typeOf (hT _ hst₁) ?_)
 rw [if_neg (by rw [h1]; decide)]
 refine wpAny_bind (W.self 0 _ _ _ hst₁ ?_)
 refine wpAny_bind (wpAny_holding ?_)
 unfold Builtin.List.listLengthHint
 refine wpAny_bind (wpAny_specialOf (hT _ hst₁) QA ?_)
 show wpAny _ A.in1 (specialOf (Value.ref r) (Str.ofString "__length_hint__") >>= _) _ _ _
 refine wpAny_bind (wpAny_specialOf (hT _ hst₁) v7.lookup ?_)
 (generalize hid : ("reversed.__length_hint__" : String) = id0; (fail_if_success (clear hid id0)); wp_delta; rw [show splitId id0 = some ("reversed", "__length_hint__") from by subst hid; decide +kernel]; subst hid)
 refine wpAny_bind (wpAny_isInstance (b := true) (hT _ hst₁) (by rw [isSubtype_type]; kernel_rfl) ?_)
 show wpAny _ A.in1 (rule "list.length-hint.hint" >>= _) _ _ _
 refine wpAny_bind (wpAny_rule ?_)
 refine wpAny_bind (wpAny_of_eq (v7.bind _) ?_)
 try dsimp only
 refine wpAny_bind (wpAny_attempt (KB (items := items) (by simpa using hst₁.1) hst₁.2 hz fun u tk htk => ?_))
 have hn := qe
 have f1 : Builtin.List.listFitsIndex (items.size : Int) = true := by
  unfold Builtin.List.listFitsIndex
  rw [g3a, decide_eq_true_eq, decide_eq_true_eq]
  omega
 have f2 : Builtin.List.listTooLong ((items.size : Int)).toNat = false := by
  unfold Builtin.List.listTooLong
  rw [decide_eq_false_iff_not, Int.toNat_natCast]
  omega
 have f3 : ¬ ((items.size : Int) < 0) := by omega
 have f4 : ((items.size : Int) != 0) = decide (items.size ≠ 0) := by
  by_cases c : items.size = 0
  ·rw [c]; rfl
  ·have : (items.size : Int) ≠ 0 := by omega
   simp [c, this]
 generalize (items.size : Int) = kk at f1 f2 f3 f4
 refine wpAny_bind (m := asInt? (.int kk u)) (wpAny_pure ?_)
 dsimp only
 rw [if_neg (by rw [f1]; decide), if_neg f3, if_neg (by rw [f2]; decide)]
 refine wpAny_pure ?_
 rw [f4]
 have hst₂ := W.frame 0 _ _ tk hst₁ htk fun b _ o e => e
 have hS₁ : (s.heap.push { cls := .type "list", data := .seq ([] : List Value).toArray }).get? s.heap.objs.size = some { cls := .type "list", data := .seq ([] : List Value).toArray } := Heap.get?_push_size _ rfl
 have fin : ∀ acc : Array Value, ItemsOf (fun i v => items.toList.reverse[i]? = some v) acc items.size -> acc.toList = items.toList.reverse := fun acc ha => by
  apply g2o
  intro i
  by_cases hi : i < items.size
  ·have hi' : i < acc.size := by have := ha.1; omega
   have e1 : acc[i]? = some acc[i] := by simp [hi']
   rw [Array.getElem?_toList, e1]
   exact (ha.2 i _ e1).symm
  ·have l1 : acc.toList.length <= i := by have := ha.1; simp; omega
   have l2 : items.toList.reverse.length <= i := by simp; omega
   rw [g1e l1, g1e l2]
 by_cases c : items.size = 0
 ·have e0 : decide (items.size ≠ 0) = false := by simp [c]
  rw [e0]
  rw [if_neg (by decide)]
  refine wpAny_pure ⟨plainId_quiet F.plain_extend_loop _, codeAny_extend_loopS W hz _ hSf _ items.size 0 _ _ _ rfl (g2e _) hst₂ hS₁ (ItemsOf.nil _) fun s' acc' c' hm hS' hacc => ?_⟩
  show wpAny _ A (load s.heap.objs.size >>= _) _ _ s'
  refine wpAny_bind (wpAny_load hS' ?_)
  show wpAny _ A (pure acc'.toList) _ _ s'
  rw [fin acc' hacc]
  exact wpAny_pure (hQ s' (Moved.drop_new (o := { cls := .type "list", data := .seq ([] : List Value).toArray }) (tk := tk) hm htk))
 ·have e0 : decide (items.size ≠ 0) = true := by simp [c]
  rw [e0]
  show wpAny _ A.in1 (rule "list.extend.makes-room" >>= fun _ => Builtin.List.listTouch (.ref s.heap.objs.size) >>= fun _ =>
   again (.builtin "list.extend.loop" ⟨[.ref s.heap.objs.size, .ref r, .ref s.heap.objs.size], []⟩)) _ _ _
  refine wpAny_bind (wpAny_rule ?_)
  refine wpAny_bind ?_
  show wpAny _ A.in1 (updateSeq s.heap.objs.size (·.push .none) >>= fun _ => updateSeq s.heap.objs.size (·.pop)) _ _ _
  refine wpAny_bind (wpAny_updateSeq hS₁ rfl ?_)
  have hS₂ := Heap.get?_update_self (Obj.mapSeq (·.push Value.none)) hS₁ rfl
  refine wpAny_updateSeq hS₂ rfl ?_
  have hS₃ := Heap.get?_update_self (Obj.mapSeq (·.pop)) hS₂ rfl
  have oth : ∀ b o, b ≠ s.heap.objs.size -> (s.heap.push { cls := .type "list", data := .seq ([] : List Value).toArray }).get? b = some o →
    (((s.heap.push { cls := .type "list", data := .seq ([] : List Value).toArray }).update s.heap.objs.size (Obj.mapSeq (·.push Value.none))).update s.heap.objs.size (Obj.mapSeq (·.pop))).get? b = some o :=
   fun b o hb e => (Heap.get?_update_other _ _ (Ne.symm hb)).trans ((Heap.get?_update_other _ _ (Ne.symm hb)).trans e)
  refine wpAny_pure ⟨plainId_quiet F.plain_extend_loop _, codeAny_extend_loopS W hz _ hSf _ items.size 0 _ _ _ rfl (g2e _)
   (W.frame 0 ({ s with heap := s.heap.push { cls := .type "list", data := .seq ([] : List Value).toArray }, toks := tk } : Shared) _ tk hst₂ (g0o _) fun b hb o e => oth b o (fun h => hSf (h ▸ hb)) e) hS₃ (ItemsOf.nil _) fun s' acc' c' hm hS' hacc => ?_⟩
  show wpAny _ A (load s.heap.objs.size >>= _) _ _ s'
  refine wpAny_bind (wpAny_load hS' ?_)
  show wpAny _ A (pure acc'.toList) _ _ s'
  rw [fin acc' hacc]
  refine wpAny_pure (hQ s' (Moved.drop_new (o := { cls := .type "list", data := .seq ([] : List Value).toArray }) (tk := tk) (Moved.trans W.gtrans ((Moved.refl W.grefl).then_heap (g0o _) fun b o hb e => ?_) hm) htk))
  exact oth b o (fun h => hb (by rw [h]; exact g0s)) e
theorem qN {Q₁ : Value -> Shared -> Prop} (hh : A.handled = none) {r t : Addr} (hne : t ≠ r) {items : Array Value} (hr : qu s.heap r t ((items.size : Int) - 1)) (ht : IsTup s.heap t items) (hz : items.size <= sizeLine)
  (h : ∀ s', Moved [r] (fun a b => a = b) s s' -> Q₁ (.ref s'.heap.objs.size) { s' with heap := s'.heap.push { cls := .type "tuple", data := .seq items.toList.reverse.toArray } }) :
  codeAny (model prog w) A (.call (.builtin "tuple.__new__") ⟨[.type "tuple", .ref r], []⟩) (wants Q₁ E) s := by
 refine codeAny_of_tree ?_
 show wpAny _ A.in1 (do checkBuiltinCall "tuple.__new__" ⟨[.type "tuple", .ref r], []⟩; again (.builtin "tuple.__new__" ⟨[.type "tuple", .ref r], []⟩)) _ _ s
 refine wpAny_bind (wpAny_of_eq (F.newCall_tuple_1 _) (wpAny_pure ⟨plainId_quiet F.plain_tuple_new _, codeAny_builtin F.entry_tuple_new ?_⟩))
 rw [Around.under_plainId F.plain_tuple_new _]
 have hsub := sub_tuple_self
 have hinit := init_tuple_lookup
 have hmh := madeHere_tuple
 have hTI : s.TypeIs (.ref r) "reversed" := ⟨_, hr, rfl⟩
 wp_walk using wpAny_typeOf hTI, WE (show A.in1.handled = none from hh) hne hr ht hz
 intro s' hm
 show wpAny _ _ (Builtin.Tuple.tupleExact items.toList.reverse.toArray >>= fun v => ret v) _ _ _
 unfold Builtin.Tuple.tupleExact
 refine wpAny_bind (wpAny_newObj_type ?_ (by show items.toList.reverse.toArray.size <= sizeLine; simpa using hz))
 refine wpAny_pure ?_
 exact h s' hm
theorem Zn {Q : Value -> Shared -> Prop} (hh : A.handled = none) {r t : Addr} (hne : t ≠ r) {items : Array Value} (hr : qu s.heap r t ((items.size : Int) - 1)) (ht : IsTup s.heap t items) (hz : items.size <= sizeLine)
  (hQ : ∀ s', Moved [r] (fun a b => a = b) s s' -> Q (.ref s'.heap.objs.size) { s' with heap := s'.heap.push { cls := .type "tuple", data := .seq items.toList.reverse.toArray } }) :
  wpAny (model prog w) A (call (.type "tuple") [.ref r]) Q E s := by
 refine callType_codes (Q₁ := fun obj s₁ => s₁.TypeIs obj "tuple" /\ Q obj s₁) F.called_tuple (F.typeCall_tuple_1 _) F.entry_object_init
  (qN (A := A.in1) (show A.in1.handled = none from hh) hne hr ht hz fun s' hm => ⟨⟨_, Heap.get?_push_size _ rfl, rfl⟩, hQ s' hm⟩) fun obj s₁ h₁ => ?_
 exact ⟨h₁.1, F.args_object_init_2 obj _, object_init_meets F.called_tuple.init.lookup F.called_tuple.made (by decide) prog w A.in1 _ s₁ ⟨h₁.1, rfl, h₁.2⟩⟩
end
def Dq (f : FE) : FE := fun ρ => (f ρ).bind fun | .tup ds => some (.tup ds.reverse) | _ => none
@[simp] theorem BW {f : FE} {ρ : Rho} : Dq f ρ = (f ρ).bind fun | .tup ds => some (.tup ds.reverse) | _ => none := rfl
theorem WG : bootBuiltins "tuple" = some (.type "tuple") := by kernel_rfl
variable {X : Cx} {e : Expr} {f : FE} {pos : Pos}
theorem KU {p p2 pos2 : Pos} (hc : X.calm = true) (hgT : Gl X "tuple") (hmT : X.mg "tuple" = none) (hg : Gl X "reversed") (hm : X.mg "reversed" = none) (he : DE X e f) (hs : starEach [e] X.env = [(false, eval e X.env)] := by rfl)
  (hs2 : starEach [.Call (.Name "reversed" p2) [e] [] pos2] X.env = [(false, eval (.Call (.Name "reversed" p2) [e] [] pos2) X.env)] := by rfl) : DE X (.Call (.Name "tuple" p) [.Call (.Name "reversed" p2) [e] [] pos2] [] pos) (Dq f) := by
 intro pins s σ H Q I h
 obtain ⟨H₀, Hf₀, ρ, Hf, d', R0, q, k⟩ := h
 obtain ⟨d, q3, q4⟩ := zP q
 refine wpAny_Call_Name_kw (vV I hgT hmT WG (PyProof.Rows.callWith_type1 ?_ hs2 rfl))
 rw [hs2]
 refine Calls.spliced_cons (rest := []) ?_
 refine wpAny_Call_Name_kw (vV I hg hm boot_reversed (PyProof.Rows.callWith_type1 (thn ((zM he xb hs) pos2 pins s σ H (fun vs H1 => ∃ v Hf1, vs = [v] /\ Rep X.K H₀ Hf₀ σ ρ H1 Hf1 /\ yp H H1 /\ yp Hf Hf1 /\ Has X.K Hf1 d v) I ⟨H₀, Hf₀, ρ, Hf, d, R0, q3, fun v H1 Hf1 R1 s1 t1 h1 => ⟨v, Hf1, rfl, R1, s1, t1, h1⟩⟩) fun us s1 ⟨vs, H1, I1, r1, q1⟩ => ?_) hs rfl))
 obtain ⟨v, Hf1, rfl, R1, s1', t1, h1⟩ := q1
 cases r1 with
 | cons r rr =>
  cases rr
  cases d <;> try cases q4
  obtain ⟨a, xs, rfl, qa, la⟩ := Has.tup_iff.mp h1
  cases r
  obtain ⟨its, rv, pt, hz⟩ := I1.tuple (ux R1.sf qa)
  have hl := rv.length
  have hn := qe
  refine VD pt (by rw [g0u, <- hl]; omega) ?_
  refine Calls.spliced_nil ?_
  have hlt : a < s1.heap.objs.size := by obtain ⟨o, ho, _⟩ := pt; exact Heap.lt_size ho
  have I2 : Inv X pins σ H1 { s1 with heap := s1.heap.push { cls := .type "reversed", data := .fields #[.ref a, rawInt (((its.toArray.size : Nat) : Int) - 1)] }, toks := s1.toks + 1 + 1 } := I1.kept fun b o e => Heap.get?_push_of_some _ e
  refine Zn (I.ok.hd hc) (r := s1.heap.objs.size) (t := a) (items := its.toArray) (g1b hlt) (Heap.get?_push_size _ rfl) (by
   obtain ⟨o, ho, hcl, n, hd⟩ := pt
   exact ⟨o, Heap.get?_push_of_some _ ho, hcl, n, hd⟩) (by rw [g0u, <- hl]; exact hz) fun s' hm => ?_
  obtain ⟨h', g', d', tk', os'⟩ := s'
  obtain ⟨m1, m2, m3, m4, m5⟩ := hm
  simp only at m1 m2 m3 m4 m5
  subst m2 m3 m4
  have fr := kK I1 (g0o s1.heap.objs.size)
  obtain ⟨f0, f1, f2, f3, f4, f5⟩ := fr
  have I3 : Inv X pins σ H1 { s1 with heap := h', toks := tk' } := I2.turned (t' := tk') (fun b o hb e => m1 b o (by simpa using hb) e) f0 f1 f3 f4 f5
  have I4 : Inv X pins σ (upd H1 h'.objs.size (.tup xs.reverse)) { s1 with heap := h'.push { cls := .type "tuple", data := .seq its.reverse.toArray }, toks := tk' } :=
   I3.laid (t' := tk') (fun b o e => Heap.get?_push_of_some _ e) (g0o _) (show u5 X.prog X.w _ _ _ (.tup xs.reverse) from ⟨by simpa using hz, its.reverse, rv.reverse, IsTup.new _ _⟩)
  have hfree : H1 h'.objs.size = none := I3.hok.fresh (g0o _)
  have sm := zY (o := .tup xs.reverse) (R1.sf.free hfree)
  exact ⟨.ref h'.objs.size, _, I4, rfl, k _ _ _ (R1.lay hfree) (s1'.trans (zY hfree)) (t1.trans sm) (Has.tup_iff.mpr ⟨h'.objs.size, _, rfl, SqT.of zz, la.reverse.mono sm⟩)⟩
section
variable {X : Cx} {pins : List (Addr × Obj)} {σ : St} {H : Hp} {s : Shared}
end
section
variable {X : Cx} {o e : Expr} {f g : FE} {kk : Nat}
end
def Itd (lo : Int) (n : Nat) : It := ⟨fun i _ => i < n, fun i H x H' => H' = H /\ x = .int (lo - i), fun i _ => n <= i⟩
theorem UL {P : Program} {w : World} {K : W.Frag} {tg : Expr} (it : Addr) (lo : Int) (n : Nat) : Turn P w K tg (Itd lo n) [it] it (fun i h => IsRangeIter h it (lo + (i : Nat) * (-1)) ((n : Int) - (i : Nat)) (-1)) where
 mem := by simp
 obj := fun i h st b hb => by
  have e : b = it := by simpa using hb
  subst e
  exact ⟨_, st, fun v z => by
   have z' : Data.fields _ = Data.cell v := z
   cases z'⟩
 keep := fun i h h' st k => k it (by simp) _ st
 item := by
  intro X hP hw hK hc i pins s σ H E I hf st hg
  subst hP hw hK
  obtain ⟨f0, f1, f2, f3, f4, f5⟩ := hf it (by simp)
  have W := PySem.Walks.range (prog := X.prog) (w := X.w) (I.ok.hd hc) it lo (-1) n
  refine W.item i s _ _ hg st fun v h' tk hv st' kk => ?_
  obtain ⟨t, rfl⟩ := hv
  have I1 : Inv X pins σ H { s with heap := h', toks := tk } := I.turned (fun b o hb e => kk b o (by simpa using hb) e) f0 f1 f3 f4 f5
  refine ⟨_, rfl, Q6 (s := { s with heap := h', toks := tk }) (n := "range_iterator") st' rfl rfl (by decide) ⟨.int (lo - i), H, I1, ⟨t, ?_⟩, ⟨rfl, rfl⟩, st', fun b hb => (hf b hb).1⟩⟩
  congr 1
  omega
 done := by
  intro X hP hw hK hc i pins s σ H E I hf st hg
  subst hP hw hK
  obtain ⟨f0, f1, f2, f3, f4, f5⟩ := hf it (by simp)
  exact wpAny_pyNext_range_end (I.ok.hd hc) st (by have : n <= i := hg; omega) fun h' eb => ⟨rfl, I.turned (t' := s.toks) (fun b o hb e => eb b o hb e) f0 f1 f3 f4 f5⟩
 self := fun _ _ _ _ _ st h => wpAny_pyIter_rangeiter st h
theorem u7 (a b : Int) : Builtin.Range.rangeSize a b (-1) = (((a - b).toNat : Nat) : Int) := by
 unfold Builtin.Range.rangeSize
 rw [if_neg (by decide)]
 split
 ·have : -(-1 : Int) = 1 := rfl
  rw [this, Int.ediv_one]
  omega
 ·omega
theorem VS {a b : Int} (h1 : -1000000 <= a) (h2 : a <= 1000000) (h3 : -1000000 <= b) (h4 : b <= 1000000) : Builtin.Range.small a b (-1) = true := by
 unfold Builtin.Range.small
 rw [u7]
 simp only [Builtin.Range.rangeFitsLong, g3a, Bool.or_eq_true, decide_eq_true_eq, beq_iff_eq, show ¬ ((-1 : Int) > 0) by decide, if_false]
 omega
section
variable {X : Cx} {tg : Expr}
theorem Bg {pins : List (Addr × Obj)} {σ : St} {H : Hp} {s : Shared} {R : It -> Hp -> Prop} {E : Value -> Shared -> Prop} {lo hi : Int} {t u v : Tok} {tk : Nat} (I : Inv X pins σ H s) (h1 : -1000000 <= lo) (h2 : lo <= 1000000) (h3 : -1000000 <= hi) (h4 : hi <= 1000000)
  (q : R (Itd lo (lo - hi).toNat) H) : wpAny (model X.prog X.w) X.A (pyIter (.ref s.heap.objs.size)) (PIE X pins σ tg R) E { s with heap := s.heap.push { cls := .type "range", data := .fields #[.int lo t, .int hi u, .int (-1) v] }, toks := tk } := by
 refine wpAny_pyIter_range (IsRange.new ..) (VS h1 h2 h3 h4) ?_
 have I1 : Inv X pins σ H { s with heap := s.heap.push { cls := .type "range", data := .fields #[.int lo t, .int hi u, .int (-1) v] }, toks := tk } := I.kept fun b o e => Heap.get?_push_of_some _ e
 refine ⟨(s.heap.push { cls := .type "range", data := .fields #[.int lo t, .int hi u, .int (-1) v] }).objs.size, [(s.heap.push { cls := .type "range", data := .fields #[.int lo t, .int hi u, .int (-1) v] }).objs.size], _, _, H, rfl,
  I1.kept (t' := tk) fun b o e => Heap.get?_push_of_some _ e, UL _ lo (lo - hi).toNat, ?_, fun b hb => ?_, q⟩
 ·have e1 : lo + ((0 : Nat) : Int) * (-1) = lo := by simp
  have e2 : (((lo - hi).toNat : Nat) : Int) - ((0 : Nat) : Int) = Builtin.Range.rangeSize lo hi (-1) := by rw [u7]; omega
  show IsRangeIter _ _ (lo + ((0 : Nat) : Int) * (-1)) ((((lo - hi).toNat : Nat) : Int) - ((0 : Nat) : Int)) (-1)
  rw [e1, e2]
  exact Heap.get?_push_size _ rfl
 ·have e : b = (s.heap.push { cls := .type "range", data := .fields #[.int lo t, .int hi u, .int (-1) v] }).objs.size := by simpa using hb
  subst e
  exact I1.fpOk (g0o _) (I1.hok.fresh (g0o _))
def Fj (ta : TA) : TI := fun σ H R => ta σ H fun vs H1 => ∃ i j : Int, vs = [.int i, .int j, .int (-1)] /\ (-1000000 <= i /\ i <= 1000000 /\ -1000000 <= j /\ j <= 1000000) /\ R (Itd i (i - j).toNat) H1
theorem Qf {a b c : Expr} {ta : TA} {p pos : Pos} (hg : Gl X "range") (hm : X.mg "range" = none) (ha : PA X [a, b, c] ta) (hs : starEach [a, b, c] X.env = [(false, eval a X.env), (false, eval b X.env), (false, eval c X.env)] := by rfl) (hs2 : starEach [b, c] X.env = [(false, eval b X.env), (false, eval c X.env)] := by rfl) :
  PI X tg (.Call (.Name "range" p) [a, b, c] [] pos) (Fj ta) := by
 intro pins s σ H R I h
 refine Call_ (vV I hg hm boot_range (PyProof.Rows.callWith_type1 (thn (ha pos pins s σ H _ I h) fun us s1 ⟨vs, H1, I1, r1, q1⟩ => ?_) (by rw [hs, hs2]) (by rw [hs2]; rfl)))
 obtain ⟨i, j, e, ⟨q1, q2, q3, q4⟩, q⟩ := q1
 subst e
 cases r1 with
 | cons r rr =>
  cases rr with
  | cons r' rr =>
   cases rr with
   | cons r'' rr =>
    cases rr
    obtain ⟨t, rfl⟩ := r
    obtain ⟨t', rfl⟩ := r'
    obtain ⟨t'', rfl⟩ := r''
    exact call_range_3 (by decide) (Bg I1 q1 q2 q3 q4 q) (Or.inl (PyProof.noPylong_small (by decide)))
def XG (hi lo : Int) : List D := (g1f (hi - lo).toNat).map fun (k : Nat) => D.int (hi - (k : Int))
def W8 : List D -> Option (List D)
 | [.int i, .int j, .int k] => if k = -1 /\ -1000000 <= i /\ i <= 1000000 /\ -1000000 <= j /\ j <= 1000000 then some (XG i j) else none
 | _ => none
theorem Qa {i j : Int} (h1 : -1000000 <= i) (h2 : i <= 1000000) (h3 : -1000000 <= j) (h4 : j <= 1000000) : W8 [.int i, .int j, .int (-1)] = some (XG i j) := if_pos ⟨rfl, h1, h2, h3, h4⟩
theorem VM {K : W.Frag} {Hf : Hp} {lo : Int} {n : Nat} : Walks K Hf (Itd lo n) ((g1f n).map fun (k : Nat) => D.int (lo - (k : Int))) := fun H2 Hf2 t2 sf2 i => by
 refine ⟨fun d hd => ?_, fun hle => ?_⟩
 ·rw [g0w] at hd
  cases e : (g1f n)[i]? with
  | none => rw [e] at hd; cases hd
  | some j =>
   rw [e] at hd
   cases hd
   obtain ⟨h1, h2⟩ := g0y.mp e
   simp at h1 h2
   subst h2
   refine ⟨h1, fun x H3 hy => ?_⟩
   obtain ⟨rfl, rfl⟩ := hy
   exact ⟨Hf2, Grows.refl sf2, Has.int_iff.mpr rfl⟩
 ·show n <= i
  simpa using hle
end
section
variable {X : Cx} {a b c dd : Expr} {f g h i4 : FE} {pos p2 : Pos}
end
section
variable {X : Cx} {e : Expr} {f : FE} {pos : Pos}
end
section
variable {X : Cx} {e : Expr} {f : FE}
end
abbrev YQ (h : Heap) (z TI TO : Addr) (f0 f1 : Value) : Prop :=
 h.get? z = some { cls := .type "zip", dict := none, data := .fields #[f0, f1, .bool false, .ref TI, .ref TO], slots := #[] }
def FC (f0 f1 : Value) : Prop := (f0 = .none \/ ∃ p : Addr, f0 = rawInt p) /\ ∃ b : Bool, f1 = .bool b
section
variable {prog : Program} {w : World} {A : Around} {E : Value -> Shared -> Prop} {s : Shared}
theorem j7 {M : Model} {a : Addr} {Q : Option Obj -> Shared -> Prop} (h : Q (s.heap.get? a) s) : wpAny M A (loadIfAlive a) Q E s := fun _ _ _ => h
theorem Xg {z TI TO : Addr} {f0 f1 : Value} (hz : YQ s.heap z TI TO f0 f1) (ho : FC f0 f1) :
  (∀ Q : Bool -> Shared -> Prop, Q true s -> wpAny (model prog w) A (Builtin.SmallTypes.ownedTupleIsFree (.ref z)) Q E s) ∨
  (∀ Q : Bool -> Shared -> Prop, (∀ h' f1', FC f0 f1' -> YQ h' z TI TO f0 f1' -> Heap.SameBut z s.heap h' -> Q false { s with heap := h' }) -> wpAny (model prog w) A (Builtin.SmallTypes.ownedTupleIsFree (.ref z)) Q E s) := by
 obtain ⟨h0, b, rfl⟩ := ho
 rcases h0 with rfl | ⟨p, rfl⟩
 ·left
  intro Q hQ
  unfold Builtin.SmallTypes.ownedTupleIsFree
  exact wpAny_bind (wpAny_field hz rfl (x := .none) rfl (wpAny_pure hQ))
 ·cases hp : s.heap.get? ((p : Int).toNat) with
  | none =>
   left
   intro Q hQ
   unfold Builtin.SmallTypes.ownedTupleIsFree
   refine wpAny_bind (wpAny_field hz rfl (x := rawInt p) rfl ?_)
   refine wpAny_bind (j7 ?_)
   rw [hp]
   exact wpAny_pure hQ
  | some o =>
   right
   intro Q hQ
   unfold Builtin.SmallTypes.ownedTupleIsFree
   refine wpAny_bind (wpAny_field hz rfl (x := rawInt p) rfl ?_)
   refine wpAny_bind (j7 ?_)
   rw [hp]
   simp only [Option.isNone_some, g0k, if_false]
   refine wpAny_bind (wpAny_field hz rfl (x := .bool b) rfl ?_)
   cases b with
   | true =>
    simp only [bne_self_eq_false, g0k, if_false]
    exact wpAny_pure (hQ s.heap _ ⟨.inr ⟨p, rfl⟩, true, rfl⟩ hz (Heap.SameBut.refl ..))
   | false =>
    rw [if_pos (by decide)]
    refine wpAny_bind (wpAny_setField_rec hz (by simp) fun h' hz' hs' => wpAny_pure ?_)
    exact hQ h' (.bool true) ⟨.inr ⟨p, rfl⟩, true, rfl⟩ hz' hs'
end
section
variable {P : Program} {w : World} {K : W.Frag} {J1 J2 : It} {fp1 fp2 : List Addr} {i1 i2 z TI TO : Addr} {tn1 tn2 : Nat -> Heap -> Prop}
def FF (tn1 tn2 : Nat -> Heap -> Prop) (z TI TO i1 i2 : Addr) (i : Nat) (h : Heap) : Prop := tn1 i h /\ tn2 i h /\ (∃ f0 f1, FC f0 f1 /\ YQ h z TI TO f0 f1) /\ IsPair h TI (.ref i1) (.ref i2) /\ ∃ a b, IsPair h TO a b
theorem Ue {fp : List Addr} {p : Addr -> Prop} (h1 : p z) (h2 : p TI) (h3 : p TO) (h4 : ∀ b ∈ fp, p b) : ∀ b ∈ z :: TI :: TO :: fp, p b := fun b hb => by
 rcases g0m.mp hb with rfl | hb
 ·exact h1
 rcases g0m.mp hb with rfl | hb
 ·exact h2
 rcases g0m.mp hb with rfl | hb
 ·exact h3
 ·exact h4 b hb
theorem KR (D1 : Draw P w K J1 fp1 i1 tn1) (D2 : Draw P w K J2 fp2 i2 tn2) (Z : ZApart z TI TO fp1 fp2) :
  Draw P w K (ItZ J1 J2) (z :: TI :: TO :: (fp1 ++ fp2)) z (FF tn1 tn2 z TI TO i1 i2) where
 mem := g0s
 obj := fun i h st => by
  obtain ⟨s1, s2, ⟨f0, f1, ho, hz⟩, hTI, a, b', hTO⟩ := st
  refine Ue ⟨_, hz, fun v z => by cases z⟩ ⟨_, hTI, fun v z => by cases z⟩ ⟨_, hTO, fun v z => by cases z⟩ fun b hb => ?_
  rcases g1h.mp hb with hb | hb
  ·exact D1.obj i h s1 b hb
  ·exact D2.obj i h s2 b hb
 keep := fun i h h' st k => by
  obtain ⟨s1, s2, ⟨f0, f1, ho, hz⟩, hTI, a, b', hTO⟩ := st
  exact ⟨D1.keep i h h' s1 fun b hb o e => k b (by simp [hb]) o e, D2.keep i h h' s2 fun b hb o e => k b (by simp [hb]) o e, ⟨f0, f1, ho, k z (by simp) _ hz⟩, k TI (by simp) _ hTI, a, b', k TO (by simp) _ hTO⟩
 item := by
  intro A X hP hw hK i pins s σ H E I hf st hg
  subst hP hw hK
  obtain ⟨s1, s2, ⟨f0, f1, ho, hz⟩, hTI, a, b', hTO⟩ := st
  obtain ⟨g1, g2⟩ := hg
  have hT : s.TypeIs (.ref z) "zip" := ⟨_, hz, rfl⟩
  have fz := hf z (by simp)
  have fTI := hf TI (by simp)
  have fTO := hf TO (by simp)
  have ff1 : ∀ b ∈ fp1, vH X pins H b := fun b hb => hf b (by simp [hb])
  have ff2 : ∀ b ∈ fp2, vH X pins H b := fun b hb => hf b (by simp [hb])
  have n1z : ∀ b ∈ fp1, b ≠ z := fun b hb => Z.z1 b (by simp [hb])
  have n2z : ∀ b ∈ fp2, b ≠ z := fun b hb => Z.z1 b (by simp [hb])
  have n1I : ∀ b ∈ fp1, b ≠ TI := fun b hb => Z.z2 b (by simp [hb])
  have n2I : ∀ b ∈ fp2, b ≠ TI := fun b hb => Z.z2 b (by simp [hb])
  have n1O : ∀ b ∈ fp1, b ≠ TO := fun b hb => Z.z3 b (by simp [hb])
  have n2O : ∀ b ∈ fp2, b ≠ TO := fun b hb => Z.z3 b (by simp [hb])
  have out1 : ∀ b ∈ fp1, b ∉ z :: TI :: TO :: fp2 := fun b hb hm => by
   rcases g0m.mp hm with e | hm
   ·exact n1z b hb e
   rcases g0m.mp hm with e | hm
   ·exact n1I b hb e
   rcases g0m.mp hm with e | hm
   ·exact n1O b hb e
   ·exact Z.d b hb hm
  have out2 : ∀ b ∈ fp2, b ∉ z :: TI :: TO :: fp1 := fun b hb hm => by
   rcases g0m.mp hm with e | hm
   ·exact n2z b hb e
   rcases g0m.mp hm with e | hm
   ·exact n2I b hb e
   rcases g0m.mp hm with e | hm
   ·exact n2O b hb e
   ·exact Z.d b hm hb
  unfold Builtin.SmallTypes.nextOf
  refine wpAny_bind (wpAny_callSpecial?_slot (name := Str.ofString "__next__") hT F.slot_zip_next (wpAny_call_entry F.slot_zip_next hT F.entry_zip_next ?_ (F.args_zip_next_1 _)))
  show wpAny _ _ (field (.ref z) 2 >>= _) _ _ _
  refine wpAny_bind (wpAny_field hz rfl (x := .bool false) rfl ?_)
  show wpAny _ _ (field (.ref z) 3 >>= _) _ _ _
  refine wpAny_bind (wpAny_field hz rfl (x := .ref TI) rfl ?_)
  refine wpAny_bind (wpAny_seqItems hTI rfl ?_)
  show wpAny _ _ (Builtin.SmallTypes.ownedTupleIsFree (.ref z) >>= _) _ _ _
  refine wpAny_bind ?_
  rcases Xg hz ho with hfr | hfr
  ·refine hfr _ ?_
   simp only [if_true]
   refine wpAny_bind (wpAny_rule ?_)
   refine wpAny_bind (wpAny_field hz rfl (x := .ref TO) rfl ?_)
   refine wpAny_bind (wpAny_setField_rec hz (by simp) fun h₁ hz₁ hs₁ => ?_)
   replace hz₁ : YQ h₁ z TI TO .ellipsis f1 := hz₁
   have I1 : Inv X pins σ H { s with heap := h₁ } := xa (t' := s.toks) I hs₁ fz
   have hTI₁ : IsPair h₁ TI (.ref i1) (.ref i2) := (hs₁.2 TI (Ne.symm Z.a1)).trans hTI
   have hTO₁ : IsPair h₁ TO a b' := (hs₁.2 TO (Ne.symm Z.a2)).trans hTO
   have s1₁ : tn1 i h₁ := D1.keep _ _ _ s1 fun b hb o e => (hs₁.2 b (n1z b hb)).trans e
   have s2₁ : tn2 i h₁ := D2.keep _ _ _ s2 fun b hb o e => (hs₁.2 b (n2z b hb)).trans e
   refine wpAny_bind ?_
   simp only [g3b, List.zipIdx_nil, g2n, g2z]
   refine wpAny_bind (wpAny_bind (wpAny_onRaise ?_))
   show wpAny _ _ (Builtin.SmallTypes.nextOf (.ref i1) >>= _) _ _ _
   have I1p := I1.pinned (fp := z :: TI :: TO :: fp2) (Ue fz fTI fTO ff2) (Ue ⟨_, hz₁, fun v z => by cases z⟩ ⟨_, hTI₁, fun v z => by cases z⟩ ⟨_, hTO₁, fun v z => by cases z⟩ fun b hb => D2.obj _ _ s2₁ b hb)
   refine wpAny_bind (wpAny_mono (D1.item _ X rfl rfl rfl i _ _ σ H _ I1p (fun b hb => vH.moreL (ff1 b hb) (out1 b hb)) s1₁ g1) (fun u1 s3 h3 => wpAny_pure ?_) fun _ _ z => z)
   obtain ⟨x1, H3, I3, r3, y3, st3, fr3⟩ := h3
   obtain ⟨hz₃, fz3⟩ := yc I3 (b := z) (by simp) hz₁
   obtain ⟨hTI₃, fTI3⟩ := yc I3 (b := TI) (by simp) hTI₁
   obtain ⟨hTO₃, fTO3⟩ := yc I3 (b := TO) (by simp) hTO₁
   have hz₃ : YQ s3.heap z TI TO .ellipsis f1 := hz₃
   have hTI₃ : IsPair s3.heap TI (.ref i1) (.ref i2) := hTI₃
   have hTO₃ : IsPair s3.heap TO a b' := hTO₃
   have s2₃ : tn2 i s3.heap := D2.keep _ _ _ s2₁ fun b hb o e => (yc I3 (by simp [hb]) e).1
   have ff2₃ : ∀ b ∈ fp2, H3 b = none := fun b hb => by
    obtain ⟨o, e, _⟩ := D2.obj _ _ s2₁ b hb
    exact (yc I3 (by simp [hb]) e).2
   have I3 := I3.unpinned
   refine wpAny_bind (wpAny_seqItems hTO₃ rfl ?_)
   refine wpAny_bind (wpAny_updateSeq_pair hTO₃ fun h₄ hTO₄ hs₄ => ?_)
   replace hTO₄ : IsPair h₄ TO u1 b' := hTO₄
   refine wpAny_bind (wpAny_letGo (wpAny_pure ?_))
   have I4 : Inv X pins σ H3 { s3 with heap := h₄ } := xa (t' := s3.toks) I3 hs₄ ⟨fTO3, fTO.2⟩
   have hz₄ : YQ h₄ z TI TO .ellipsis f1 := (hs₄.2 z Z.a2).trans hz₃
   have hTI₄ : IsPair h₄ TI (.ref i1) (.ref i2) := (hs₄.2 TI Z.a3).trans hTI₃
   have st4 : tn1 (i + 1) h₄ := D1.keep _ _ _ st3 fun b hb o e => (hs₄.2 b (n1O b hb)).trans e
   have s2₄ : tn2 i h₄ := D2.keep _ _ _ s2₃ fun b hb o e => (hs₄.2 b (n2O b hb)).trans e
   refine wpAny_bind (wpAny_bind (wpAny_onRaise ?_))
   show wpAny _ _ (Builtin.SmallTypes.nextOf (.ref i2) >>= _) _ _ _
   have I4p := I4.pinned (fp := z :: TI :: TO :: fp1) (Ue ⟨fz3, fz.2⟩ ⟨fTI3, fTI.2⟩ ⟨fTO3, fTO.2⟩ fun b hb => ⟨fr3 b hb, (ff1 b hb).2⟩) (Ue ⟨_, hz₄, fun v z => by cases z⟩ ⟨_, hTI₄, fun v z => by cases z⟩ ⟨_, hTO₄, fun v z => by cases z⟩ fun b hb => D1.obj _ _ st4 b hb)
   refine wpAny_bind (wpAny_mono (D2.item _ X rfl rfl rfl i _ _ σ H3 _ I4p (fun b hb => vH.moreL ⟨ff2₃ b hb, (ff2 b hb).2⟩ (out2 b hb)) s2₄ (g2 _ _ y3)) (fun u2 s5 h5 => wpAny_pure ?_) fun _ _ z => z)
   obtain ⟨x2, H5, I5, r5, y5, st5, fr5⟩ := h5
   obtain ⟨hz₅, fz5⟩ := yc I5 (b := z) (by simp) hz₄
   obtain ⟨hTI₅, fTI5⟩ := yc I5 (b := TI) (by simp) hTI₄
   obtain ⟨hTO₅, fTO5⟩ := yc I5 (b := TO) (by simp) hTO₄
   have hz₅ : YQ s5.heap z TI TO .ellipsis f1 := hz₅
   have hTI₅ : IsPair s5.heap TI (.ref i1) (.ref i2) := hTI₅
   have hTO₅ : IsPair s5.heap TO u1 b' := hTO₅
   have st5' : tn1 (i + 1) s5.heap := D1.keep _ _ _ st4 fun b hb o e => (yc I5 (by simp [hb]) e).1
   have ff1₅ : ∀ b ∈ fp1, H5 b = none := fun b hb => by
    obtain ⟨o, e, _⟩ := D1.obj _ _ st4 b hb
    exact (yc I5 (by simp [hb]) e).2
   have I5 := I5.unpinned
   refine wpAny_bind (wpAny_seqItems hTO₅ rfl ?_)
   refine wpAny_bind (wpAny_updateSeq_pair hTO₅ fun h₆ hTO₆ hs₆ => ?_)
   replace hTO₆ : IsPair h₆ TO u1 u2 := hTO₆
   refine wpAny_bind (wpAny_letGo (wpAny_pure (wpAny_pure ?_)))
   have I6 : Inv X pins σ H5 { s5 with heap := h₆ } := xa (t' := s5.toks) I5 hs₆ ⟨fTO5, fTO.2⟩
   have hz₆ : YQ h₆ z TI TO .ellipsis f1 := (hs₆.2 z Z.a2).trans hz₅
   have hTI₆ : IsPair h₆ TI (.ref i1) (.ref i2) := (hs₆.2 TI Z.a3).trans hTI₅
   have st6 : tn1 (i + 1) h₆ := D1.keep _ _ _ st5' fun b hb o e => (hs₆.2 b (n1O b hb)).trans e
   have st6' : tn2 (i + 1) h₆ := D2.keep _ _ _ st5 fun b hb o e => (hs₆.2 b (n2O b hb)).trans e
   refine wpAny_bind (wpAny_seqItems hTO₆ rfl ?_)
   refine wpAny_bind (wpAny_newTuple ?_)
   have hf7 : H5 h₆.objs.size = none := I6.hok.fresh (g0o _)
   have I7 : Inv X pins σ (upd H5 h₆.objs.size (.tup [x1, x2])) { s5 with heap := h₆.push { cls := .type "tuple", data := .seq #[u1, u2] } } :=
    I6.laid (t' := s5.toks) (fun b u e => Heap.get?_push_of_some _ e) (g0o _) ⟨by show 2 <= sizeLine; decide, [u1, u2], .cons r3 (.cons r5 .nil), ⟨_, Heap.get?_push_size _ rfl, rfl, _, rfl⟩⟩
   have lz : z < h₆.objs.size := Heap.lt_size hz₆
   have lTI : TI < h₆.objs.size := Heap.lt_size hTI₆
   have lTO : TO < h₆.objs.size := Heap.lt_size hTO₆
   show wpAny _ _ (Builtin.SmallTypes.ownedTupleHandOut (.ref z) (.ref h₆.objs.size) >>= _) _ _ _
   refine wpAny_bind ?_
   unfold Builtin.SmallTypes.ownedTupleHandOut
   have hz₇ : YQ (h₆.push { cls := .type "tuple", data := .seq #[u1, u2] }) z TI TO .ellipsis f1 := Heap.get?_push_of_some _ hz₆
   refine wpAny_bind (wpAny_setField_rec hz₇ (by simp) fun h₈ hz₈ hs₈ => ?_)
   replace hz₈ : YQ h₈ z TI TO (rawInt h₆.objs.size) f1 := hz₈
   refine wpAny_setField_rec hz₈ (by simp) fun h₉ hz₉ hs₉ => ?_
   replace hz₉ : YQ h₉ z TI TO (rawInt h₆.objs.size) (.bool false) := hz₉
   refine wpAny_pure ⟨_, rfl, wpAny_pure ?_⟩
   have up : ∀ c o, c ≠ z -> h₆.get? c = some o -> h₉.get? c = some o := fun c o hc e => (hs₉.2 c hc).trans ((hs₈.2 c hc).trans (Heap.get?_push_of_some _ e))
   have fz7 : (upd H5 h₆.objs.size (.tup [x1, x2])) z = none := by rw [zw (g1b lz)]; exact fz5
   have old : ∀ b, b < h₆.objs.size -> H5 b = none -> (upd H5 h₆.objs.size (.tup [x1, x2])) b = none := fun b hl hn => by rw [zw (g1b hl)]; exact hn
   refine ⟨.ref h₆.objs.size, _, I7.turned (t' := s5.toks) (fun b o hb q => (hs₉.2 b hb).trans ((hs₈.2 b hb).trans q)) fz7 fz.2.1 fz.2.2.2.1 fz.2.2.2.2.1 fz.2.2.2.2.2, rfl, ⟨x1, x2, H3, H5, _, y3, y5, hf7, rfl, rfl⟩,
    ⟨D1.keep _ _ _ st6 fun b hb o e => up b o (n1z b hb) e, D2.keep _ _ _ st6' fun b hb o e => up b o (n2z b hb) e, ⟨_, _, ⟨.inr ⟨_, rfl⟩, false, rfl⟩, hz₉⟩, up _ _ (Ne.symm Z.a1) hTI₆, _, _, up _ _ (Ne.symm Z.a2) hTO₆⟩, Ue fz7 (old _ lTI fTI5) (old _ lTO fTO5) fun b hb => ?_⟩
   rcases g1h.mp hb with hb | hb
   ·obtain ⟨o, q, _⟩ := D1.obj _ _ st6 b hb
    exact old b (Heap.lt_size q) (ff1₅ b hb)
   ·obtain ⟨o, q, _⟩ := D2.obj _ _ st6' b hb
    exact old b (Heap.lt_size q) (fr5 b hb)
  ·refine hfr _ fun h₁ f1' ho₁ hz₁ hs₁ => ?_
   simp only [g0k, if_false]
   have I1 : Inv X pins σ H { s with heap := h₁ } := xa (t' := s.toks) I hs₁ fz
   have hTI₁ : IsPair h₁ TI (.ref i1) (.ref i2) := (hs₁.2 TI (Ne.symm Z.a1)).trans hTI
   have hTO₁ : IsPair h₁ TO a b' := (hs₁.2 TO (Ne.symm Z.a2)).trans hTO
   have s1₁ : tn1 i h₁ := D1.keep _ _ _ s1 fun b hb o e => (hs₁.2 b (n1z b hb)).trans e
   have s2₁ : tn2 i h₁ := D2.keep _ _ _ s2 fun b hb o e => (hs₁.2 b (n2z b hb)).trans e
   refine wpAny_bind ?_
   simp only [<- Array.forIn_toList, g2n, g2z]
   refine wpAny_bind (wpAny_bind (wpAny_holding ?_))
   show wpAny _ _ (Builtin.SmallTypes.nextOf (.ref i1) >>= _) _ _ _
   have I1p := I1.pinned (fp := z :: TI :: TO :: fp2) (Ue fz fTI fTO ff2) (Ue ⟨_, hz₁, fun v z => by cases z⟩ ⟨_, hTI₁, fun v z => by cases z⟩ ⟨_, hTO₁, fun v z => by cases z⟩ fun b hb => D2.obj _ _ s2₁ b hb)
   refine wpAny_bind (wpAny_mono (D1.item _ X rfl rfl rfl i _ _ σ H _ I1p (fun b hb => vH.moreL (ff1 b hb) (out1 b hb)) s1₁ g1) (fun u1 s3 h3 => wpAny_pure (wpAny_pure ?_)) fun _ _ z => z)
   obtain ⟨x1, H3, I3, r3, y3, st3, fr3⟩ := h3
   obtain ⟨hz₃, fz3⟩ := yc I3 (b := z) (by simp) hz₁
   obtain ⟨hTI₃, fTI3⟩ := yc I3 (b := TI) (by simp) hTI₁
   obtain ⟨hTO₃, fTO3⟩ := yc I3 (b := TO) (by simp) hTO₁
   have hz₃ : YQ s3.heap z TI TO f0 f1' := hz₃
   have hTI₃ : IsPair s3.heap TI (.ref i1) (.ref i2) := hTI₃
   have hTO₃ : IsPair s3.heap TO a b' := hTO₃
   have s2₃ : tn2 i s3.heap := D2.keep _ _ _ s2₁ fun b hb o e => (yc I3 (by simp [hb]) e).1
   have ff2₃ : ∀ b ∈ fp2, H3 b = none := fun b hb => by
    obtain ⟨o, e, _⟩ := D2.obj _ _ s2₁ b hb
    exact (yc I3 (by simp [hb]) e).2
   have I3 := I3.unpinned
   refine wpAny_bind (wpAny_bind (wpAny_holding ?_))
   show wpAny _ _ (Builtin.SmallTypes.nextOf (.ref i2) >>= _) _ _ _
   have I4p := I3.pinned (fp := z :: TI :: TO :: fp1) (Ue ⟨fz3, fz.2⟩ ⟨fTI3, fTI.2⟩ ⟨fTO3, fTO.2⟩ fun b hb => ⟨fr3 b hb, (ff1 b hb).2⟩) (Ue ⟨_, hz₃, fun v z => by cases z⟩ ⟨_, hTI₃, fun v z => by cases z⟩ ⟨_, hTO₃, fun v z => by cases z⟩ fun b hb => D1.obj _ _ st3 b hb)
   refine wpAny_bind (wpAny_mono (D2.item _ X rfl rfl rfl i _ _ σ H3 _ I4p (fun b hb => vH.moreL ⟨ff2₃ b hb, (ff2 b hb).2⟩ (out2 b hb)) s2₃ (g2 _ _ y3)) (fun u2 s5 h5 => wpAny_pure (wpAny_pure (wpAny_pure ?_))) fun _ _ z => z)
   obtain ⟨x2, H5, I5, r5, y5, st5, fr5⟩ := h5
   obtain ⟨hz₅, fz5⟩ := yc I5 (b := z) (by simp) hz₃
   obtain ⟨hTI₅, fTI5⟩ := yc I5 (b := TI) (by simp) hTI₃
   obtain ⟨hTO₅, fTO5⟩ := yc I5 (b := TO) (by simp) hTO₃
   have hz₅ : YQ s5.heap z TI TO f0 f1' := hz₅
   have hTI₅ : IsPair s5.heap TI (.ref i1) (.ref i2) := hTI₅
   have hTO₅ : IsPair s5.heap TO a b' := hTO₅
   have st5' : tn1 (i + 1) s5.heap := D1.keep _ _ _ st3 fun b hb o e => (yc I5 (by simp [hb]) e).1
   have ff1₅ : ∀ b ∈ fp1, H5 b = none := fun b hb => by
    obtain ⟨o, e, _⟩ := D1.obj _ _ st3 b hb
    exact (yc I5 (by simp [hb]) e).2
   have I5 := I5.unpinned
   have lz : z < s5.heap.objs.size := Heap.lt_size hz₅
   have lTI : TI < s5.heap.objs.size := Heap.lt_size hTI₅
   have lTO : TO < s5.heap.objs.size := Heap.lt_size hTO₅
   have hf7 : H5 s5.heap.objs.size = none := I5.hok.fresh (g0o _)
   show wpAny _ _ (newTuple [u1, u2] >>= _) _ _ _
   refine wpAny_bind (wpAny_newTuple ?_)
   have I7 : Inv X pins σ (upd H5 s5.heap.objs.size (.tup [x1, x2])) { s5 with heap := s5.heap.push { cls := .type "tuple", data := .seq #[u1, u2] } } :=
    I5.laid (t' := s5.toks) (fun b u e => Heap.get?_push_of_some _ e) (g0o _) ⟨by show 2 <= sizeLine; decide, [u1, u2], .cons r3 (.cons r5 .nil), ⟨_, Heap.get?_push_size _ rfl, rfl, _, rfl⟩⟩
   refine wpAny_pure ⟨_, rfl, wpAny_pure ?_⟩
   have up : ∀ c o, s5.heap.get? c = some o -> (s5.heap.push { cls := .type "tuple", data := .seq #[u1, u2] }).get? c = some o := fun c o e => Heap.get?_push_of_some _ e
   have old : ∀ b, b < s5.heap.objs.size -> H5 b = none -> (upd H5 s5.heap.objs.size (.tup [x1, x2])) b = none := fun b hl hn => by rw [zw (g1b hl)]; exact hn
   refine ⟨.ref s5.heap.objs.size, _, I7, rfl, ⟨x1, x2, H3, H5, _, y3, y5, hf7, rfl, rfl⟩,
    ⟨D1.keep _ _ _ st5' fun b hb o e => up b o e, D2.keep _ _ _ st5 fun b hb o e => up b o e, ⟨_, _, ho₁, up _ _ hz₅⟩, up _ _ hTI₅, _, _, up _ _ hTO₅⟩, Ue (old _ lz fz5) (old _ lTI fTI5) (old _ lTO fTO5) fun b hb => ?_⟩
   rcases g1h.mp hb with hb | hb
   ·obtain ⟨o, q, _⟩ := D1.obj _ _ st5' b hb
    exact old b (Heap.lt_size q) (ff1₅ b hb)
   ·obtain ⟨o, q, _⟩ := D2.obj _ _ st5 b hb
    exact old b (Heap.lt_size q) (fr5 b hb)
 fin := by
  intro A X hP hw hK hh i pins s σ H Q I hf st hg
  subst hP hw hK
  obtain ⟨s1, s2, ⟨f0, f1, ho, hz⟩, hTI, a, b', hTO⟩ := st
  have hT : s.TypeIs (.ref z) "zip" := ⟨_, hz, rfl⟩
  have fz := hf z (by simp)
  have fTI := hf TI (by simp)
  have fTO := hf TO (by simp)
  have ff1 : ∀ b ∈ fp1, vH X pins H b := fun b hb => hf b (by simp [hb])
  have ff2 : ∀ b ∈ fp2, vH X pins H b := fun b hb => hf b (by simp [hb])
  have n1z : ∀ b ∈ fp1, b ≠ z := fun b hb => Z.z1 b (by simp [hb])
  have n2z : ∀ b ∈ fp2, b ≠ z := fun b hb => Z.z1 b (by simp [hb])
  have n1I : ∀ b ∈ fp1, b ≠ TI := fun b hb => Z.z2 b (by simp [hb])
  have n2I : ∀ b ∈ fp2, b ≠ TI := fun b hb => Z.z2 b (by simp [hb])
  have n1O : ∀ b ∈ fp1, b ≠ TO := fun b hb => Z.z3 b (by simp [hb])
  have n2O : ∀ b ∈ fp2, b ≠ TO := fun b hb => Z.z3 b (by simp [hb])
  have out1 : ∀ b ∈ fp1, b ∉ z :: TI :: TO :: fp2 := fun b hb hm => by
   rcases g0m.mp hm with e | hm
   ·exact n1z b hb e
   rcases g0m.mp hm with e | hm
   ·exact n1I b hb e
   rcases g0m.mp hm with e | hm
   ·exact n1O b hb e
   ·exact Z.d b hb hm
  unfold Builtin.SmallTypes.nextOf
  refine wpAny_bind (wpAny_callSpecial?_slot (name := Str.ofString "__next__") hT F.slot_zip_next (wpAny_call_entry F.slot_zip_next hT F.entry_zip_next ?_ (F.args_zip_next_1 _)))
  show wpAny _ _ (field (.ref z) 2 >>= _) _ _ _
  refine wpAny_bind (wpAny_field hz rfl (x := .bool false) rfl ?_)
  show wpAny _ _ (field (.ref z) 3 >>= _) _ _ _
  refine wpAny_bind (wpAny_field hz rfl (x := .ref TI) rfl ?_)
  refine wpAny_bind (wpAny_seqItems hTI rfl ?_)
  show wpAny _ _ (Builtin.SmallTypes.ownedTupleIsFree (.ref z) >>= _) _ _ _
  refine wpAny_bind ?_
  rcases Xg hz ho with hfr | hfr
  ·refine hfr _ ?_
   simp only [if_true]
   refine wpAny_bind (wpAny_rule ?_)
   refine wpAny_bind (wpAny_field hz rfl (x := .ref TO) rfl ?_)
   refine wpAny_bind (wpAny_setField_rec hz (by simp) fun h₁ hz₁ hs₁ => ?_)
   replace hz₁ : YQ h₁ z TI TO .ellipsis f1 := hz₁
   have I1 : Inv X pins σ H { s with heap := h₁ } := xa (t' := s.toks) I hs₁ fz
   have hTI₁ : IsPair h₁ TI (.ref i1) (.ref i2) := (hs₁.2 TI (Ne.symm Z.a1)).trans hTI
   have hTO₁ : IsPair h₁ TO a b' := (hs₁.2 TO (Ne.symm Z.a2)).trans hTO
   have s1₁ : tn1 i h₁ := D1.keep _ _ _ s1 fun b hb o e => (hs₁.2 b (n1z b hb)).trans e
   have s2₁ : tn2 i h₁ := D2.keep _ _ _ s2 fun b hb o e => (hs₁.2 b (n2z b hb)).trans e
   have I1p := I1.pinned (fp := z :: TI :: TO :: fp2) (Ue fz fTI fTO ff2) (Ue ⟨_, hz₁, fun v z => by cases z⟩ ⟨_, hTI₁, fun v z => by cases z⟩ ⟨_, hTO₁, fun v z => by cases z⟩ fun b hb => D2.obj _ _ s2₁ b hb)
   refine wpAny_bind ?_
   simp only [g3b, List.zipIdx_nil, g2n, g2z]
   refine wpAny_bind (wpAny_bind (wpAny_onRaise ?_))
   show wpAny _ _ (Builtin.SmallTypes.nextOf (.ref i1) >>= _) _ _ _
   rcases hg with hg | ⟨g1, hg⟩
   ·refine wpAny_bind (wpAny_mono (D1.fin A.in1 X rfl rfl rfl (show A.in1.handled = none from hh) i _ _ σ H _ I1p (fun b hb => vH.moreL (ff1 b hb) (out1 b hb)) s1₁ hg) (fun _ _ z => z) fun e s3 h3 => ?_)
    obtain ⟨I3, c, o, rfl, ho, hcl⟩ := h3
    obtain ⟨hz₃, fz3⟩ := yc I3 (b := z) (by simp) hz₁
    have hz₃ : YQ s3.heap z TI TO .ellipsis f1 := hz₃
    have hcz : c ≠ z := fun x => by subst x; rw [hz₃] at ho; cases ho; simp at hcl
    refine wpAny_setField_rec hz₃ (by simp) fun h₄ hz₄ hs₄ => ?_
    exact ⟨xa (t' := s3.toks) I3.unpinned hs₄ ⟨fz3, fz.2⟩, c, o, rfl, (hs₄.2 c hcz).trans ho, hcl⟩
   ·refine wpAny_bind (wpAny_mono (D1.item _ X rfl rfl rfl i _ _ σ H _ I1p (fun b hb => vH.moreL (ff1 b hb) (out1 b hb)) s1₁ g1) (fun u1 s3 h3 => wpAny_pure ?_) fun _ _ z => z)
    obtain ⟨x1, H3, I3, r3, y3, st3, fr3⟩ := h3
    obtain ⟨rfl, hst⟩ := hg _ _ y3
    obtain ⟨hz₃, fz3⟩ := yc I3 (b := z) (by simp) hz₁
    obtain ⟨hTO₃, fTO3⟩ := yc I3 (b := TO) (by simp) hTO₁
    have hz₃ : YQ s3.heap z TI TO .ellipsis f1 := hz₃
    have hTO₃ : IsPair s3.heap TO a b' := hTO₃
    have s2₃ : tn2 i s3.heap := D2.keep _ _ _ s2₁ fun b hb o e => (yc I3 (by simp [hb]) e).1
    have I3 := I3.unpinned
    refine wpAny_bind (wpAny_seqItems hTO₃ rfl ?_)
    refine wpAny_bind (wpAny_updateSeq_pair hTO₃ fun h₄ hTO₄ hs₄ => ?_)
    refine wpAny_bind (wpAny_letGo (wpAny_pure ?_))
    have I4 : Inv X pins σ H3 { s3 with heap := h₄ } := xa (t' := s3.toks) I3 hs₄ ⟨fTO3, fTO.2⟩
    have hz₄ : YQ h₄ z TI TO .ellipsis f1 := (hs₄.2 z Z.a2).trans hz₃
    have s2₄ : tn2 i h₄ := D2.keep _ _ _ s2₃ fun b hb o e => (hs₄.2 b (n2O b hb)).trans e
    refine wpAny_bind (wpAny_bind (wpAny_onRaise ?_))
    show wpAny _ _ (Builtin.SmallTypes.nextOf (.ref i2) >>= _) _ _ _
    have I4p := I4.pinned (fp := [z]) (fun b hb => by
     have e : b = z := by simpa using hb
     subst e; exact ⟨fz3, fz.2⟩) (fun b hb => by
     have e : b = z := by simpa using hb
     subst e; exact ⟨_, hz₄, fun v z => by cases z⟩)
    refine wpAny_bind (wpAny_mono (D2.fin A.in1 X rfl rfl rfl (show A.in1.handled = none from hh) i _ _ σ H3 _ I4p (fun b hb => vH.moreL (ff2 b hb) (by
     intro hm
     exact n2z b hb (by simpa using hm))) s2₄ hst) (fun _ _ z => z) fun e s5 h5 => ?_)
    obtain ⟨I5, c, o, rfl, ho, hcl⟩ := h5
    obtain ⟨hz₅, fz5⟩ := yc I5 (b := z) (by simp) hz₄
    have hz₅ : YQ s5.heap z TI TO .ellipsis f1 := hz₅
    have hcz : c ≠ z := fun x => by subst x; rw [hz₅] at ho; cases ho; simp at hcl
    refine wpAny_setField_rec hz₅ (by simp) fun h₆ hz₆ hs₆ => ?_
    exact ⟨xa (t' := s5.toks) I5.unpinned hs₆ ⟨fz5, fz.2⟩, c, o, rfl, (hs₆.2 c hcz).trans ho, hcl⟩
  ·refine hfr _ fun h₁ f1' ho₁ hz₁ hs₁ => ?_
   simp only [g0k, if_false]
   have I1 : Inv X pins σ H { s with heap := h₁ } := xa (t' := s.toks) I hs₁ fz
   have s1₁ : tn1 i h₁ := D1.keep _ _ _ s1 fun b hb o e => (hs₁.2 b (n1z b hb)).trans e
   have s2₁ : tn2 i h₁ := D2.keep _ _ _ s2 fun b hb o e => (hs₁.2 b (n2z b hb)).trans e
   refine wpAny_bind ?_
   simp only [<- Array.forIn_toList, g2n, g2z]
   refine wpAny_bind (wpAny_bind (wpAny_holding ?_))
   show wpAny _ _ (Builtin.SmallTypes.nextOf (.ref i1) >>= _) _ _ _
   rcases hg with hg | ⟨g1, hg⟩
   ·exact wpAny_bind (wpAny_mono (D1.fin A.in1 X rfl rfl rfl (show A.in1.handled = none from hh) i _ _ σ H _ I1 ff1 s1₁ hg) (fun _ _ z => z) fun e s3 h3 => h3)
   ·have I1p := I1.pinned (fp := fp2) ff2 fun b hb => D2.obj _ _ s2₁ b hb
    refine wpAny_bind (wpAny_mono (D1.item _ X rfl rfl rfl i _ _ σ H _ I1p (fun b hb => vH.moreL (ff1 b hb) (Z.d b hb)) s1₁ g1) (fun u1 s3 h3 => wpAny_pure (wpAny_pure ?_)) fun _ _ z => z)
    obtain ⟨x1, H3, I3, r3, y3, st3, fr3⟩ := h3
    obtain ⟨rfl, hst⟩ := hg _ _ y3
    have s2₃ : tn2 i s3.heap := D2.keep _ _ _ s2₁ fun b hb o e => (yc I3 hb e).1
    have I3 := I3.unpinned
    refine wpAny_bind (wpAny_bind (wpAny_holding ?_))
    show wpAny _ _ (Builtin.SmallTypes.nextOf (.ref i2) >>= _) _ _ _
    exact wpAny_bind (wpAny_mono (D2.fin A.in1 X rfl rfl rfl (show A.in1.handled = none from hh) i _ _ σ H3 _ I3 ff2 s2₃ hst) (fun _ _ z => z) fun e s5 h5 => h5)
end
section
variable {prog : Program} {w : World} {A : Around} {E : Value -> Shared -> Prop} {s : Shared}
theorem Wt (z TI TO : Addr) :
  Meets (Builtin.«enumerate.__new__» ⟨[.type "enumerate", .ref z], []⟩) (fun _ R s => IsZip s.heap z TI TO .none ∧
   R (.ok (.ret (.ref s.heap.objs.size))) { s with heap := s.heap.push { cls := .type "enumerate", data := .fields #[.none, .bool false, .ref z, rawInt 0, .none, .none] } }) :=
 .of_wp fun prog w A R s h => by
  obtain ⟨hp, g, d, tk, os⟩ := s; obtain ⟨hl, h⟩ := h
  have hsub := sub_enumerate
  have hL : IsZip (Shared.heap ⟨hp, g, d, tk, os⟩) z TI TO .none := hl
  wp_walk using wpAny_pyIter_zip hL
  refine wpAny_stack_any fun st => wpAny_pure ?_
  split
  ·rename_i c _ _ _ _ _
   cases (c == Value.type "enumerate")
   ·wp_walk using wpAny_pyIter_zip hL
    exact ⟨_, rfl, h⟩
   ·wp_walk using wpAny_pyIter_zip hL
    exact ⟨_, rfl, h⟩
  ·wp_walk using wpAny_pyIter_zip hL
   exact ⟨_, rfl, h⟩
theorem Uv {z TI TO : Addr} {Q : Value -> Shared -> Prop} (hL : IsZip s.heap z TI TO .none)
  (h : ∀ h', IsEnum h' s.heap.objs.size z 0 .none -> (∀ b o, s.heap.get? b = some o -> h'.get? b = some o) -> Q (.ref s.heap.objs.size) { s with heap := h' }) :
  wpAny (model prog w) A (call (.type "enumerate") [.ref z]) Q E s := by
 refine callType_new F.called_enumerate (by decide) (F.typeCall_enumerate_1 _) (F.newCall_enumerate_1 _) (fun obj => F.args_object_init_2 obj _) F.entry_enumerate_new (Wt z TI TO) ⟨hL, ?_⟩
 have he : IsEnum (s.heap.push { cls := .type "enumerate", data := .fields #[.none, .bool false, .ref z, rawInt 0, .none, .none] }) s.heap.objs.size z 0 .none := Heap.get?_push_size s.heap (o := { cls := .type "enumerate", data := .fields #[.none, .bool false, .ref z, rawInt 0, .none, .none] }) rfl
 exact ⟨⟨_, he, rfl⟩, h _ he fun b o x => Heap.get?_push_of_some _ x⟩
end
def Yp (f g : FE) : FA := fun ρ => (ZK f g ρ).bind fun ds => some (x4 ds)
@[simp] theorem U2 {f g : FE} {ρ : Rho} : Yp f g ρ = (ZK f g ρ).bind fun ds => some (x4 ds) := rfl
section
variable {X : Cx} {e1 e2 : Expr} {f1 f2 : FE} {pos : Pos} {elts : List Expr} {kx : Nat} {tp : Pos}
theorem KS {p p2 pos2 : Pos} (hgE : Gl X "enumerate") (hmE : X.mg "enumerate" = none) (hg : Gl X "zip") (hm : X.mg "zip" = none) (h1 : DE X e1 f1) (h2 : DE X e2 f2) (hs : starEach [e1, e2] X.env = [(false, eval e1 X.env), (false, eval e2 X.env)] := by rfl) (hs2 : starEach [e2] X.env = [(false, eval e2 X.env)] := by rfl)
  (hs3 : starEach [.Call (.Name "zip" p2) [e1, e2] [] pos2] X.env = [(false, eval (.Call (.Name "zip" p2) [e1, e2] [] pos2) X.env)] := by rfl) :
  DI X (.Tuple elts kx tp) (.Call (.Name "enumerate" p) [.Call (.Name "zip" p2) [e1, e2] [] pos2] [] pos) (Yp f1 f2) := by
 intro pins s σ H R I h
 obtain ⟨H₀, Hf₀, ρ, Hf, ds', R0, q, k⟩ := h
 obtain ⟨dz, q9, q10⟩ := yz q
 cases q10
 obtain ⟨xs, q1, q2⟩ := yz q9
 obtain ⟨ys, q5, q6⟩ := yz q2
 cases q6
 obtain ⟨d1, q3, q4⟩ := zP q1
 obtain ⟨d2, q7, q8⟩ := zP q5
 refine Call_ (vV I hgE hmE boot_enumerate (PyProof.Rows.callWith_type1 ?_ hs3 rfl))
 rw [hs3]
 refine Calls.spliced_cons (rest := []) ?_
 refine wpAny_Call_Name_kw (vV I hg hm boot_zip (PyProof.Rows.callWith_type1 (thn ((zM h1 (zM h2 xb hs2) (by rw [hs, hs2])) pos2 pins s σ H (fun vs H1 => ∃ v v' Hf1, vs = [v, v'] /\ Rep X.K H₀ Hf₀ σ ρ H1 Hf1 /\ yp H H1 /\ yp Hf Hf1 /\ Has X.K Hf1 d1 v /\ Has X.K Hf1 d2 v') I
  ⟨H₀, Hf₀, ρ, Hf, d1, R0, q3, fun v H1 Hf1 R1 s1 t1 h1 => ⟨H₀, Hf₀, ρ, Hf1, d2, R1, q7, fun v' H2 Hf2 R2 s2 t2 h2 => ⟨v, v', Hf2, rfl, R2, s1.trans s2, t1.trans t2, h1.mono t2, h2⟩⟩⟩) fun us s1 ⟨vs, H1, I1, r1, q1⟩ => ?_) (by rw [hs, hs2]) (by rw [hs2]; rfl)))
 obtain ⟨v, v', Hf1, rfl, R1, s1', t1, hv, hv'⟩ := q1
 cases r1 with
 | cons r rr =>
  cases rr with
  | cons r' rr =>
   cases rr
   obtain ⟨b, a, its, J, rfl, sq, wk, hq, dr⟩ := Y2 I1 R1.sf hv q4 r
   obtain ⟨b', a', its', J', rfl, sq', wk', hq', dr'⟩ := Y2 I1 R1.sf hv' q8 r'
   refine VC sq sq' fun h' hz hTI hTO hi hi' hk => ?_
   have I2 : Inv X pins σ H1 { s1 with heap := h' } := I1.kept (t' := s1.toks) hk
   obtain ⟨tn, D, st⟩ := dr s1.heap.objs.size
   obtain ⟨tn', D', st'⟩ := dr' (s1.heap.objs.size + 1)
   have mem : ∀ b : Addr, b ∈ [s1.heap.objs.size] ++ [s1.heap.objs.size + 1] -> b = s1.heap.objs.size \/ b = s1.heap.objs.size + 1 := fun b hb => by simpa using hb
   have Z : ZApart (s1.heap.objs.size + 4) (s1.heap.objs.size + 2) (s1.heap.objs.size + 3) [s1.heap.objs.size] [s1.heap.objs.size + 1] :=
    ⟨by show (_ : Nat) ≠ _; omega, by show (_ : Nat) ≠ _; omega, by show (_ : Nat) ≠ _; omega, fun b hb => by rcases mem b hb with e | e <;> (rw [e]; show (_ : Nat) ≠ _; omega), fun b hb => by rcases mem b hb with e | e <;> (rw [e]; show (_ : Nat) ≠ _; omega),
     fun b hb => by rcases mem b hb with e | e <;> (rw [e]; show (_ : Nat) ≠ _; omega), fun b hb hb' => by
      have e1 : b = s1.heap.objs.size := by simpa using hb
      have e2 : b = s1.heap.objs.size + 1 := by simpa using hb'
      rw [e1] at e2
      exact absurd e2 (g1b (g2m _))⟩
   refine Calls.spliced_nil ?_
   refine Uv hz fun h'' he hk2 => ?_
   have I3 : Inv X pins σ H1 { s1 with heap := h'' } := I2.kept (t' := s1.toks) hk2
   have DZ := KR D D' Z
   have st0 : FF tn tn' (s1.heap.objs.size + 4) (s1.heap.objs.size + 2) (s1.heap.objs.size + 3) s1.heap.objs.size (s1.heap.objs.size + 1) 0 h' := ⟨st _ hi, st' _ hi', ⟨_, _, ⟨.inl rfl, false, rfl⟩, hz⟩, hTI, _, _, hTO⟩
   have lt : ∀ b ∈ (s1.heap.objs.size + 4) :: (s1.heap.objs.size + 2) :: (s1.heap.objs.size + 3) :: ([s1.heap.objs.size] ++ [s1.heap.objs.size + 1]), b < h'.objs.size := fun b hb => by
    obtain ⟨o, e, _⟩ := DZ.obj _ _ st0 b hb
    exact Heap.lt_size e
   refine kl he ⟨h'.objs.size, _, _, _, H1, rfl, I3, YY (elts := elts) (kx := kx) (tp := tp) (e := h'.objs.size) DZ (fun b hb => g1b (lt b hb)), ⟨DZ.keep _ _ _ st0 fun b hb o e => hk2 b o e, _, he⟩, fun b hb => ?_, k _ _ _ R1 s1' t1 (Zr (YU hq wk wk'))⟩
   rcases g0m.mp hb with rfl | hb
   ·exact kK I2 (g0o _)
   ·have hle : s1.heap.objs.size <= b := by
     have : b = s1.heap.objs.size + 4 \/ b = s1.heap.objs.size + 2 \/ b = s1.heap.objs.size + 3 \/ b = s1.heap.objs.size \/ b = s1.heap.objs.size + 1 := by simpa using hb
     rcases this with e | e | e | e | e <;> (rw [e]; show (_ : Nat) <= _; omega)
    exact kK I1 hle
end
section
variable {X : Cx} {e : Expr} {pos : Pos}
end
section
variable {X : Cx}
end
section
variable {prog : Program} {w : World} {A : Around} {E : Value -> Shared -> Prop} {s : Shared}
end
section
variable {X : Cx} {e st : Expr} {f fs : FE} {pos p2 : Pos}
end
section
variable {O : KeyOrd} {n : Nat} {key : Nat -> O.α}
open KeyOrd
end
open PySem.AutoSeq1 (wpAny_loadPart')
open PySem.MeetsSeq PySem.MeetsSeq2 PySem.MeetsSeq3
section
variable {prog : Program} {w : World} {A : Around} {E : Value -> Shared -> Prop} {s : Shared}
end
section
variable {X : Cx} {pins : List (Addr × Obj)} {σ : St} {H : Hp} {s : Shared} {A : Around}
end
section
variable {X : Cx} {pins : List (Addr × Obj)} {σ : St} {H : Hp} {s : Shared}
end
section
variable {X : Cx} {e : Expr} {pos : Pos} {kk : Nat}
end
section
variable {α : Type} {P : List α -> Prop}
theorem MS (k : P []) : ∀ us : List α, us.length = 0 -> P us
 | [], _ => k
theorem JF (k : ∀ a, P [a]) : ∀ us : List α, us.length = 1 -> P us
 | a :: us, h => MS (P := fun us => P (a :: us)) (k a) us (Nat.succ.inj h)
theorem WJ (k : ∀ a b, P [a, b]) : ∀ us : List α, us.length = 2 -> P us
 | a :: us, h => JF (P := fun us => P (a :: us)) (k a) us (Nat.succ.inj h)
theorem X9 (k : ∀ a b c, P [a, b, c]) : ∀ us : List α, us.length = 3 -> P us
 | a :: us, h => WJ (P := fun us => P (a :: us)) (k a) us (Nat.succ.inj h)
theorem Mo (k : ∀ a b c d, P [a, b, c, d]) : ∀ us : List α, us.length = 4 -> P us
 | a :: us, h => X9 (P := fun us => P (a :: us)) (k a) us (Nat.succ.inj h)
theorem MR (k : ∀ a b c d e, P [a, b, c, d, e]) : ∀ us : List α, us.length = 5 -> P us
 | a :: us, h => Mo (P := fun us => P (a :: us)) (k a) us (Nat.succ.inj h)
end
section
variable {X : Cx} {pos : Pos} {kk : Nat}
end
section
variable {prog : Program} {w : World} {A : Around} {E : Value -> Shared -> Prop} {s : Shared}
end
section
variable {K : W.Frag} {H₀ Hf₀ : Hp} {σ : St} {ρ : Rho} {H Hf : Hp}
end
section
variable {X : Cx} {pos : Pos} {body : List Stmt} {γ : FG} {B : FS}
end
section
variable {X : Cx} {pos : Pos} {kk : Nat}
end
section
variable {X : Cx}
variable {a b c e : Expr} {f g h : FE} {pos p2 : Pos}
end
section
variable {X : Cx} {e : Expr} {f : FE} {pos : Pos} {tg : Expr}
end
section
variable {X : Cx} {o e : Expr} {f g : FE} {kk : Nat}
end
section
variable {X : Cx}
end
abbrev FJ := Rho -> Option (List Str)
section
variable {X : Cx} {e : Expr} {es : List Expr} {f : FE} {fj : FJ} {pos p2 : Pos}
end
theorem Dv : ¬ (("house" : Str) = "word") := by decide +kernel
theorem Ml : ¬ (("house" : Str) = "moves") := by decide +kernel
theorem Mj : ¬ (("word" : Str) = "moves") := by decide +kernel
def XA (vh vw : V) (l : Addr) : List (Str × V) := jE "moves" (.ref l) (jE "word" vw (jE "house" vh []))
theorem Wz (vh vw : V) (l : Addr) : XA vh vw l = ([("house", vh), ("word", vw), ("moves", .ref l)] : List (Str × V)) := by
 unfold XA
 show jE "moves" (.ref l) (if ("house" : Str) = "word" then (("house" : Str), vw) :: [] else (("house" : Str), vh) :: jE "word" vw []) = _
 rw [if_neg Dv]
 show (if ("house" : Str) = "moves" then _ else (("house" : Str), vh) :: (if ("word" : Str) = "moves" then _ else (("word" : Str), vw) :: jE "moves" (.ref l) [])) = _
 rw [if_neg Ml, if_neg Mj]
 rfl
theorem Fq (vh vw : V) (l : Addr) : (XA vh vw l).lookup ("house" : Str) = some vh := by
 unfold XA
 rw [yB, if_neg Ml, yB, if_neg Dv, yB, if_pos rfl]
theorem C1 (vh vw : V) (l : Addr) : (XA vh vw l).lookup ("word" : Str) = some vw := by
 unfold XA
 rw [yB, if_neg Mj, yB, if_pos rfl]
theorem Mm (vh vw : V) (l : Addr) : (XA vh vw l).lookup ("moves" : Str) = some (.ref l) := by
 unfold XA
 rw [yB, if_pos rfl]
theorem Uo (vh vw : V) (l : Addr) {m : Str} (h1 : ¬ m = "moves") (h2 : ¬ m = "word") (h3 : ¬ m = "house") : (XA vh vw l).lookup m = none := by
 unfold XA
 rw [yB, if_neg h1, yB, if_neg h2, yB, if_neg h3]
 rfl
theorem C2 (vh vw v : V) (l : Addr) : jE "word" v (XA vh vw l) = XA vh v l := by
 rw [Wz, Wz]
 show (if ("house" : Str) = "word" then _ else (("house" : Str), vh) :: (if ("word" : Str) = "word" then (("word" : Str), v) :: _ else _)) = _
 rw [if_neg Dv, if_pos rfl]
structure WAt (K : W.Frag) (C p dx l : Addr) (H Hf : Hp) (hd wd : D) (ms : List D) : Prop where
 sf : yp Hf H
 ob : ∃ vh vw, H p = some (.ins C dx (XA vh vw l)) /\ Has K Hf hd vh /\ Has K Hf wd vw
 li : ∃ xs, H l = some (.lst xs) /\ z7 K Hf ms xs
 np : Hf p = none
 nl : Hf l = none
structure Chg (p l : Addr) (H Hf H' Hf' : Hp) : Prop where
 k : ∀ b o, H b = some o -> b ≠ p -> b ≠ l -> H' b = some o
 f : yp Hf Hf'
 nw : ∀ b o, Hf' b = some o -> Hf b = some o \/ H b = none \/ Tp o
section
variable {K : W.Frag} {C p dx l : Addr} {H Hf H' Hf' H2 Hf2 : Hp} {hd wd : D} {ms : List D}
theorem WAt.pl (A : WAt K C p dx l H Hf hd wd ms) : p ≠ l := by
 obtain ⟨_, _, h1, _⟩ := A.ob
 obtain ⟨_, h2, _⟩ := A.li
 exact Fi h1 h2 (by intro z; cases z)
theorem WAt.grows (A : WAt K C p dx l H Hf hd wd ms) (g : Grows H Hf H' Hf') : WAt K C p dx l H' Hf' hd wd ms := by
 obtain ⟨vh, vw, h1, h2, h3⟩ := A.ob
 obtain ⟨xs, h4, h5⟩ := A.li
 refine ⟨g.fh, ⟨vh, vw, g.h _ _ h1, h2.mono g.f, h3.mono g.f⟩, ⟨xs, g.h _ _ h4, h5.mono g.f⟩, ?_, ?_⟩
 ·cases z : Hf' p with
  | none => rfl
  | some o =>
   rcases g.new p o z with q | q | ⟨ks, q⟩
   ·rw [A.np] at q; cases q
   ·rw [h1] at q; cases q
   ·have := g.fh _ _ z
    rw [g.h _ _ h1, q] at this
    cases this
 ·cases z : Hf' l with
  | none => rfl
  | some o =>
   rcases g.new l o z with q | q | ⟨ks, q⟩
   ·rw [A.nl] at q; cases q
   ·rw [h4] at q; cases q
   ·have := g.fh _ _ z
    rw [g.h _ _ h4, q] at this
    cases this
theorem Chg.ofGrows (g : Grows H Hf H' Hf') : Chg p l H Hf H' Hf' := ⟨fun b o e _ _ => g.h b o e, g.f, g.new⟩
theorem Chg.trans (a : Chg p l H Hf H' Hf') (A : WAt K C p dx l H' Hf' hd wd ms) (b : Chg p l H' Hf' H2 Hf2) : Chg p l H Hf H2 Hf2 := by
 refine ⟨fun c o e h1 h2 => b.k c o (a.k c o e h1 h2) h1 h2, a.f.trans b.f, fun c o e => ?_⟩
 rcases b.nw c o e with q | q | q
 ·exact a.nw c o q
 ·refine .inr (.inl ?_)
  cases z : H c with
  | none => rfl
  | some u =>
   by_cases h1 : c = p
   ·subst h1
    obtain ⟨_, _, h, _⟩ := A.ob
    rw [h] at q; cases q
   ·by_cases h2 : c = l
    ·subst h2
     obtain ⟨_, h, _⟩ := A.li
     rw [h] at q; cases q
    ·rw [a.k c u z h1 h2] at q; cases q
 ·exact .inr (.inr q)
theorem WAt.setWord (A : WAt K C p dx l H Hf hd wd ms) {vh vw v : V} {wd' : D} (h1 : H p = some (.ins C dx (XA vh vw l))) (h2 : Has K Hf hd vh) (hv : Has K Hf wd' v) :
  WAt K C p dx l (upd H p (.ins C dx (XA vh v l))) Hf hd wd' ms /\ Chg p l H Hf (upd H p (.ins C dx (XA vh v l))) Hf := by
 obtain ⟨xs, h4, h5⟩ := A.li
 refine ⟨⟨fun b o e => ?_, ⟨vh, v, zz, h2, hv⟩, ⟨xs, by rw [zw A.pl.symm]; exact h4, h5⟩, A.np, A.nl⟩, ⟨fun b o e hb _ => by rw [zw hb]; exact e, zv, fun _ _ e => .inl e⟩⟩
 rw [zw (fun z => by subst z; rw [A.np] at e; cases e)]
 exact A.sf b o e
theorem WAt.more (A : WAt K C p dx l H Hf hd wd ms) {xs : List V} {m : D} {v : V} (h1 : H l = some (.lst xs)) (h2 : z7 K Hf ms xs) (hv : Has K Hf m v) :
  WAt K C p dx l (upd H l (.lst (xs ++ [v]))) Hf hd wd (ms ++ [m]) /\ Chg p l H Hf (upd H l (.lst (xs ++ [v]))) Hf := by
 obtain ⟨vh, vw, h3, h4, h5⟩ := A.ob
 refine ⟨⟨fun b o e => ?_, ⟨vh, vw, by rw [zw A.pl]; exact h3, h4, h5⟩, ⟨_, zz, h2.append (.cons hv .nil)⟩, A.np, A.nl⟩, ⟨fun b o e _ hb => by rw [zw hb]; exact e, zv, fun _ _ e => .inl e⟩⟩
 rw [zw (fun z => by subst z; rw [A.nl] at e; cases e)]
 exact A.sf b o e
inductive Sl (K : W.Frag) (Hf : Hp) : St -> Rho -> Prop
 | nil : Sl K Hf [] []
 | fr {d : D} {v : V} {σ : St} {ρ : Rho} : Has K Hf d v -> Sl K Hf σ ρ -> Sl K Hf (some v :: σ) (.fr d :: ρ)
 | no {o : Option V} {σ : St} {ρ : Rho} : Sl K Hf σ ρ -> Sl K Hf (o :: σ) (.no :: ρ)
theorem Sl.mono {σ : St} {ρ : Rho} (s : yp Hf Hf') (h : Sl K Hf σ ρ) : Sl K Hf' σ ρ := by
 induction h with
 | nil => exact .nil
 | fr a _ ih => exact .fr (a.mono s) ih
 | no _ ih => exact .no ih
theorem Sl.len {σ : St} {ρ : Rho} (h : Sl K Hf σ ρ) : ρ.length = σ.length := by
 induction h with
 | nil => rfl
 | fr _ _ ih => simp [ih]
 | no _ ih => simp [ih]
theorem Sl.get {σ : St} {ρ : Rho} (h : Sl K Hf σ ρ) : ∀ (i : Nat) (d : D), ρ[i]? = some (.fr d) -> ∃ v, σ[i]? = some (some v) /\ Has K Hf d v := by
 induction h with
 | nil => intro i d e; simp at e
 | fr a _ ih =>
  intro i d e
  cases i with
  | zero => simp at e; subst e; exact ⟨_, rfl, a⟩
  | succ i => exact ih i d (by simpa using e)
 | no _ ih =>
  intro i d e
  cases i with
  | zero => simp at e
  | succ i => exact ih i d (by simpa using e)
theorem Sl.own {σ : St} {ρ : Rho} (h : Sl K Hf σ ρ) : ∀ (i : Nat) (sl : FL.Slot), ρ[i]? = some sl -> sl.own = false := by
 induction h with
 | nil => intro i d e; simp at e
 | fr a _ ih =>
  intro i d e
  cases i with
  | zero => simp at e; subst e; rfl
  | succ i => exact ih i d (by simpa using e)
 | no _ ih =>
  intro i d e
  cases i with
  | zero => simp at e; subst e; rfl
  | succ i => exact ih i d (by simpa using e)
theorem Sl.rep {σ : St} {ρ : Rho} (sf : yp Hf H) (h : Sl K Hf σ ρ) : Rep K H Hf σ ρ H Hf where
 s0 := zv
 sf := sf
 nf := fun b o e => .inl e
 f0 := zv
 len := h.len
 fr := h.get
 ow := fun i sl e o => by rw [h.own i sl e] at o; cases o
 inj := fun i j sl sl' a e o => by rw [h.own i sl e] at o; cases o
theorem Rep.gr {σ : St} {ρ : Rho} (R : Rep K H Hf σ ρ H' Hf') : Grows H Hf H' Hf' := ⟨R.s0, R.f0, R.sf, R.nf⟩
end
theorem WB {K : W.Frag} {f : FE} {σ : St} {ρ : Rho} {H Hf : Hp} {d : D} {Q : VK} (sf : yp Hf H) (h : Sl K Hf σ ρ) (e : f ρ = some d) (k : ∀ v H' Hf', Grows H Hf H' Hf' -> Has K Hf' d v -> Q v H') : tF K f σ H Q :=
 ⟨H, Hf, ρ, Hf, d, h.rep sf, e, fun v H' Hf' R _ _ hv => k v H' Hf' R.gr hv⟩
theorem Hq {X : Cx} {r : R2} {φ : D -> D -> Option D} (hφ : OpD X r φ) {H Hf : Hp} {x y : V} {dx dy d : D} {Q : VK} (sf : yp Hf H) (hx : Has X.K Hf dx x) (hy : Has X.K Hf dy y) (e : φ dx dy = some d) (k : ∀ v H' Hf', Grows H Hf H' Hf' -> Has X.K Hf' d v -> Q v H') : r x y H Q := by
 have R := (Sl.nil (K := X.K) (Hf := Hf)).rep sf
 exact hφ [] [] H Hf H Hf x y dx dy d Q R (.inl hx) (.inl hy) e fun v H' Hf' R' _ _ hv => k v H' Hf' R'.gr hv
theorem kL {K : W.Frag} {J : It} {ds : List D} {g : TG} {tb : TS} {D' : Ends} {σ : St} {H Hf : Hp} (hw : Walks K Hf J ds) (Pv : Nat -> St -> Hp -> Hp -> Prop) (h0 : Pv 0 σ H Hf) (hP : ∀ i σ H Hf2, Pv i σ H Hf2 -> yp Hf Hf2 /\ yp Hf2 H)
  (hs : ∀ i d σ H Hf2 x H3 Hf3, ds[i]? = some d -> Pv i σ H Hf2 -> Grows H Hf2 H3 Hf3 -> Has K Hf3 d x -> g x σ H3 fun σ2 H2 => tb { D' with nx := fun σ H => ∃ Hf, Pv (i + 1) σ H Hf, ct := fun σ H => ∃ Hf, Pv (i + 1) σ H Hf, bk := D'.nx } σ2 H2) (hd : ∀ σ H Hf2, Pv ds.length σ H Hf2 -> D'.nx σ H) :
  ∃ W : Nat -> Nat -> St -> Hp -> Prop, (∃ m, W 0 m σ H) /\ ∀ i m σ H, W i m σ H →
   (J.stop i H /\ D'.nx σ H) \/ (J.go i H /\ ∃ N : St -> Hp -> Prop, (∀ σ' H', N σ' H' -> ∃ m', m' < m /\ W (i + 1) m' σ' H') /\ ∀ x H', J.yld i H x H' -> g x σ H' fun σ2 H2 => tb { D' with nx := N, ct := N, bk := D'.nx } σ2 H2) := by
 refine ⟨fun i m σ H => m = ds.length - i /\ i <= ds.length /\ ∃ Hf2, Pv i σ H Hf2, ⟨ds.length, by simp, g2e _, Hf, h0⟩, ?_⟩
 rintro i m σ H ⟨rfl, hi, Hf2, p⟩
 obtain ⟨t2, sf2⟩ := hP i σ H Hf2 p
 obtain ⟨w1, w2⟩ := hw H Hf2 t2 sf2 i
 by_cases hlt : i < ds.length
 ·have hd' : ds[i]? = some ds[i] := g0x hlt
  obtain ⟨go, yld⟩ := w1 _ hd'
  refine .inr ⟨go, fun σ H => ∃ Hf, Pv (i + 1) σ H Hf, fun σ' H' p' => ⟨ds.length - (i + 1), by omega, rfl, hlt, p'⟩, fun x H' y => ?_⟩
  obtain ⟨Hf3, gr, hx⟩ := yld x H' y
  exact hs i _ σ H Hf2 x H' Hf3 hd' p gr hx
 ·have : i = ds.length := by omega
  subst this
  exact .inl ⟨w2 (g0o _), hd σ H Hf2 p⟩
section
variable (gA gT gI gS : List D -> Option D)
abbrev WS := D × List D
def doD (hd : D) (ws : WS) (mv : D) : Option WS := (gA [hd, ws.1, mv]).bind fun w' => if ws.2.length < sizeLine then some (w', ws.2 ++ [mv]) else none
def vD (f : D -> WS -> Option WS) : List D -> WS -> Option WS
 | [], ws => some ws
 | k :: ks, ws => (f k ws).bind (vD f ks)
noncomputable def wI (hd : D) : Nat -> WS -> D -> D -> Option WS
 | 0, _, _, _ => none
 | n + 1, ws, pd, md => (ixD ws.1 pd).bind fun fd => (eqF fd md).bind fun
  | .bl true => some ws
  | .bl false => (gT [hd, fd, md]).bind fun td => (gI [fd, md, td]).bind fun sd => (jD [.int 1, td]).bind fun ks =>
   (vD (fun k ws => (yJ pd k).bind fun pk => (ixD sd k).bind fun sk => wI hd n ws pk sk) ks ws).bind fun ws' => doD gA hd ws' (.tup [.str "turn", pd, fd, md])
  | _ => none
noncomputable def jA (hd : D) (n : Nat) (k : D) (ws : WS) : Option WS := match ws.1, k with
 | .tup es, .int i => (gS [hd, .tup (qS es (some i) none)]).bind fun
  | .bl true => some ws
  | .bl false => (ixD ws.1 k).bind fun fd => (wI gA gT gI hd n ws (.int (i + 1)) fd).bind fun ws' => doD gA hd ws' (.tup [.str "drop", k])
  | _ => none
 | _, _ => none
noncomputable def kd (hd : D) (n : Nat) (ws : WS) : Option WS := match ws.1 with
 | .tup ds => (W8 [.int ((ds.length : Int) - 1), .int (-1), .int (-1)]).bind fun ks => vD (jA gA gT gI gS hd n) ks ws
 | _ => none
theorem JS {hd : D} {n : Nat} {es : List D} {i : Int} {ms : List D} (h : gS [hd, .tup (qS es (some i) none)] = some (.bl true)) : jA gA gT gI gS hd n (.int i) (.tup es, ms) = some (.tup es, ms) := by
 unfold jA
 simp only [h]
 rfl
theorem JT {hd fd : D} {n : Nat} {es : List D} {i : Int} {ms : List D} {w1 w2 : WS} (h : gS [hd, .tup (qS es (some i) none)] = some (.bl false)) (h1 : ixD (.tup es) (.int i) = some fd) (h2 : wI gA gT gI hd n (.tup es, ms) (.int (i + 1)) fd = some w1) (h3 : doD gA hd w1 (.tup [.str "drop", .int i]) = some w2) :
  jA gA gT gI gS hd n (.int i) (.tup es, ms) = some w2 := by
 unfold jA
 simp only [h]
 show ((ixD (.tup es) (.int i)).bind fun fd => (wI gA gT gI hd n (.tup es, ms) (.int (i + 1)) fd).bind fun ws' => doD gA hd ws' (.tup [.str "drop", .int i])) = _
 rw [h1, g0a, h2, g0a, h3]
variable (gL : List D -> Option D)
noncomputable def Xu (hd : D) (n : Nat) (k : D) (ws : WS) : Option WS := match k with
 | .tup [pd, md] => wI gA gT gI hd n ws pd md
 | _ => none
noncomputable def CP (n : Nat) : List D -> Option D
 | [hd, wd] => (kd gA gT gI gS hd n (wd, [])).bind fun ws => (gL [hd, wd]).bind fun ld => (ke ld).bind fun ds =>
  (vD (Xu gA gT gI hd n) (x4 ds) ws).bind fun ws' => some (.lst ws'.2)
 | _ => none
end
section
variable {X : Cx} {pins : List (Addr × Obj)} {σ : St} {H : Hp} {s : Shared} {e : Value}
end
section
variable {X : Cx} {pins : List (Addr × Obj)} {σ : St} {H : Hp} {s : Shared}
end
end FL
namespace FL
open PySem PySem.Spec PySem.Calls PyProof.Rows L2
section
variable {prog : Program} {w : World} {A : Around} {E : Value -> Shared -> Prop} {s : Shared} {K : W.Frag} {a C : Addr}
end
end FL
namespace FL
open PySem PySem.Spec PyProof.Rows L2
inductive OutX where
 | o (x : Out)
 | ex (n : Str)
abbrev FSX := Rho -> Option OutX
section
variable {X : Cx} {E : XK} {c tg iter : Expr} {fi : FA} {ft : FT} {pos : Pos} {st : Stmt} {sts rest body : List Stmt} {F : FS} {G G1 G2 B : FSX} {γ : FG}
end
inductive RX where
 | v (d : D)
 | ex (n : Str)
section
variable {mg : Str -> Option Value} {K : W.Frag} {n : Nat} {g : List D -> Option RX} {vs : List V} {H Hf : Hp} {Q : VK} {E : XK} {ds : List D}
end
section
variable {X : Cx} {o e : Expr} {f g : FE} {kk : Nat}
end
section
variable {X : Cx} {o e : Expr} {f g : FE} {kk : Nat}
end
section
variable {prog : Program} {w : World} {A : Around} {E : Value -> Shared -> Prop} {s : Shared} {l : Addr} {xs : Array (Int × Tok)}
end
section
variable {X : Cx}
end
section
variable {X : Cx} {kk : Nat}
end
section
variable {X : Cx} {pins : List (Addr × Obj)} {σ : St} {H : Hp} {s : Shared} {A : Around}
end
section
variable {X : Cx} {e : Expr} {pos : Pos}
end
open PySem.AutoSeq1 (wpAny_loadPart')
section
variable {X : Cx} {e : Expr} {f g : FE} {pos : Pos}
end
section
variable {X : Cx} {e e2 : Expr} {f g : FE} {kk : Nat}
end
section
variable {X : Cx}
end
open PySem.AutoSeq1 (wpAny_loadPart')
open PySem.MeetsSeq PySem.MeetsSeq2 PySem.MeetsSeq3
section
variable {X : Cx} {pins : List (Addr × Obj)} {σ : St} {H : Hp} {s : Shared} {A : Around}
end
section
variable {X : Cx} {e : Expr} {pos : Pos} {kk : Nat}
end
end FL
namespace M02
def wsgn (n : Int) : Int := if 0 < n then 1 else if n < 0 then -1 else 0
def N (a b : Int) : Int := a * a + a * b - b * b
def sgn (a b : Int) : Int := if 0 <= wsgn a * wsgn b then wsgn (wsgn a + wsgn b) else wsgn a * wsgn (a * a + a * b - b * b)
theorem qv {n : Int} (h : 0 < n) : wsgn n = 1 := by unfold wsgn; rw [if_pos h]
theorem qw {n : Int} (h : n < 0) : wsgn n = -1 := by unfold wsgn; rw [if_neg (by omega), if_pos h]
theorem wsgn_cases (n : Int) : (0 < n /\ wsgn n = 1) \/ (n < 0 /\ wsgn n = -1) \/ (n = 0 /\ wsgn n = 0) := by
 rcases Int.lt_trichotomy n 0 with h | h | h
 ·exact .inr (.inl ⟨h, qw h⟩)
 ·subst h; exact .inr (.inr ⟨rfl, rfl⟩)
 ·exact .inl ⟨h, qv h⟩
theorem Do (x y : Int) : N (2 * x) (2 * y) = 4 * N x y := by
 unfold N
 have e1 : 2 * x * (2 * x) = 4 * (x * x) := by rw [Int.mul_assoc, Int.mul_left_comm x 2 x, <- Int.mul_assoc]; rfl
 have e2 : 2 * x * (2 * y) = 4 * (x * y) := by rw [Int.mul_assoc, Int.mul_left_comm x 2 y, <- Int.mul_assoc]; rfl
 have e3 : 2 * y * (2 * y) = 4 * (y * y) := by rw [Int.mul_assoc, Int.mul_left_comm y 2 y, <- Int.mul_assoc]; rfl
 rw [e1, e2, e3]
 omega
theorem Xn {a b : Int} (ha : a % 2 = 1) (hb : b % 2 = 1) : (a * b) % 2 = 1 := by rw [Int.mul_emod, ha, hb]; rfl
theorem Jf {a : Int} (b : Int) (ha : a % 2 = 0) : (a * b) % 2 = 0 := by rw [Int.mul_emod, ha]; simp
theorem C3 (a : Int) {b : Int} (hb : b % 2 = 0) : (a * b) % 2 = 0 := by rw [Int.mul_emod, hb]; simp
theorem Uy : ∀ (n : Nat) (a b : Int), a.natAbs + b.natAbs = n -> N a b = 0 -> a = 0 /\ b = 0 := by
 intro n
 induction n using Nat.strongRecOn with
 | ind n ih =>
  intro a b hn h
  have h' : a * a + a * b - b * b = 0 := h
  have pa : a % 2 = 0 \/ a % 2 = 1 := by omega
  have pb : b % 2 = 0 \/ b % 2 = 1 := by omega
  rcases pa with pa | pa <;> rcases pb with pb | pb
  ·by_cases h0 : a = 0 /\ b = 0
   ·exact h0
   ·obtain ⟨x, rfl⟩ : ∃ x, a = 2 * x := ⟨a / 2, by omega⟩
    obtain ⟨y, rfl⟩ : ∃ y, b = 2 * y := ⟨b / 2, by omega⟩
    have hN := Do x y
    rw [h] at hN
    have := ih (x.natAbs + y.natAbs) (by omega) x y rfl (by omega)
    omega
  ·have e1 := Jf a pa
   have e2 := Jf b pa
   have e3 := Xn pb pb
   omega
  ·have e1 := Xn pa pa
   have e2 := C3 a pb
   have e3 := Jf b pb
   omega
  ·have e1 := Xn pa pa
   have e2 := Xn pa pb
   have e3 := Xn pb pb
   omega
theorem Dm {a b : Int} (h : N a b = 0) : a = 0 /\ b = 0 := Uy _ a b rfl h
def Pos (a b : Int) : Prop := (0 <= a /\ 0 <= b /\ (0 < a \/ 0 < b)) \/ (0 < a /\ b < 0 /\ 0 < N a b) \/ (a < 0 /\ 0 < b /\ N a b < 0)
theorem K8 (a b : Int) : N (-a) (-b) = N a b := by unfold N; rw [Int.neg_mul_neg, Int.neg_mul_neg, Int.neg_mul_neg]
theorem sgn_pos {a b : Int} (h : Pos a b) : sgn a b = 1 := by
 unfold sgn
 rcases h with ⟨h1, h2, h3⟩ | ⟨h1, h2, h3⟩ | ⟨h1, h2, h3⟩
 ·rcases wsgn_cases a with ⟨p, e⟩ | ⟨p, e⟩ | ⟨p, e⟩ <;> rcases wsgn_cases b with ⟨p', e'⟩ | ⟨p', e'⟩ | ⟨p', e'⟩ <;> rw [e, e'] <;> first | rfl | omega
 ·rw [qv h1, qw h2]
  have : a * a + a * b - b * b > 0 := h3
  rw [if_neg (by decide), qv this]; rfl
 ·rw [qw h1, qv h2]
  have : a * a + a * b - b * b < 0 := h3
  rw [if_neg (by decide), qw this]; rfl
theorem ZT (n : Int) : wsgn (-n) = -wsgn n := by
 rcases wsgn_cases n with ⟨p, e⟩ | ⟨p, e⟩ | ⟨p, e⟩
 ·rw [e, qw (by omega)]
 ·rw [e, qv (by omega)]; rfl
 ·subst p; rfl
theorem sgn_opp (a b : Int) : sgn (-a) (-b) = -sgn a b := by
 unfold sgn
 have e : -a * -a + -a * -b - -b * -b = a * a + a * b - b * b := K8 a b
 rw [e, ZT a, ZT b]
 have e2 : -wsgn a * -wsgn b = wsgn a * wsgn b := Int.neg_mul_neg _ _
 rw [e2]
 have e3 : -wsgn a + -wsgn b = -(wsgn a + wsgn b) := by omega
 rw [e3, ZT]
 split
 ·rfl
 ·exact Int.neg_mul _ _
theorem pos_cases (a b : Int) : (a = 0 /\ b = 0) \/ Pos a b \/ Pos (-a) (-b) := by
 by_cases h0 : a = 0 /\ b = 0
 ·exact .inl h0
 ·right
  have hN : N a b ≠ 0 := fun h => h0 (Dm h)
  by_cases ha : 0 <= a
  ·by_cases hb : 0 <= b
   ·exact .inl (.inl ⟨ha, hb, by omega⟩)
   ·by_cases a0 : a = 0
    ·exact .inr (.inl ⟨by omega, by omega, .inr (by omega)⟩)
    ·rcases Int.lt_or_lt_of_ne hN with hn | hn
     ·exact .inr (.inr (.inr ⟨by omega, by omega, by rw [K8]; exact hn⟩))
     ·exact .inl (.inr (.inl ⟨by omega, by omega, hn⟩))
  ·by_cases hb : 0 < b
   ·rcases Int.lt_or_lt_of_ne hN with hn | hn
    ·exact .inl (.inr (.inr ⟨by omega, hb, hn⟩))
    ·exact .inr (.inr (.inl ⟨by omega, by omega, by rw [K8]; exact hn⟩))
   ·exact .inr (.inl ⟨by omega, by omega, .inl (by omega)⟩)
theorem N_g (a b : Int) : N b (a + b) = -N a b := by
 unfold N
 have e1 : b * (a + b) = a * b + b * b := by rw [Int.mul_add, Int.mul_comm b a]
 have e2 : (a + b) * (a + b) = a * a + 2 * (a * b) + b * b := by rw [Int.add_mul, Int.mul_add, Int.mul_add, Int.mul_comm b a]; omega
 rw [e1, e2]; omega
theorem WL {a b : Int} (h1 : 0 < a) (h2 : a + b <= 0) : N a b < 0 := by
 unfold N
 have e : a * a + a * b = a * (a + b) := by rw [Int.mul_add]
 have l1 : a * (a + b) <= 0 := Int.mul_nonpos_of_nonneg_of_nonpos (by omega) h2
 have l2 : 0 < b * b := Int.mul_pos_of_neg_of_neg (by omega) (by omega)
 omega
theorem K7 {a b : Int} (h1 : a < 0) (h2 : 0 <= a + b) (h3 : 0 < b) : N a b < 0 := by
 have := WL (a := -a) (b := -b) (by omega) (by omega)
 rwa [K8] at this
theorem D7 {a b : Int} : Pos a b ↔ Pos b (a + b) := by
 unfold Pos
 rw [N_g]
 constructor
 ·rintro (⟨h1, h2, h3⟩ | ⟨h1, h2, h3⟩ | ⟨h1, h2, h3⟩)
  ·exact .inl ⟨h2, by omega, by omega⟩
  ·by_cases h : a + b <= 0
   ·have := WL h1 h; omega
   ·exact .inr (.inr ⟨h2, by omega, by omega⟩)
  ·by_cases h : a + b < 0
   ·exact .inr (.inl ⟨h2, h, by omega⟩)
   ·exact .inl ⟨by omega, by omega, by omega⟩
 ·rintro (⟨h1, h2, h3⟩ | ⟨h1, h2, h3⟩ | ⟨h1, h2, h3⟩)
  ·by_cases h : 0 <= a
   ·exact .inl ⟨h, h1, by omega⟩
   ·exact .inr (.inr ⟨by omega, by omega, K7 (by omega) h2 (by omega)⟩)
  ·exact .inr (.inr ⟨by omega, h1, by omega⟩)
  ·exact .inr (.inl ⟨by omega, h1, by omega⟩)
def gpow : Nat -> Int × Int -> Int × Int
 | 0, x => x
 | n + 1, x => gpow n (x.2, x.1 + x.2)
theorem pos_gpow : ∀ (n : Nat) (x : Int × Int), Pos x.1 x.2 ↔ Pos (gpow n x).1 (gpow n x).2
 | 0, x => Iff.rfl
 | n + 1, x => (D7 (a := x.1) (b := x.2)).trans (pos_gpow n (x.2, x.1 + x.2))
def Cone (x : Int × Int) : Prop := 0 <= x.1 /\ 0 <= x.2 /\ (0 < x.1 \/ 0 < x.2)
theorem cone_pos {x : Int × Int} (h : Cone x) : Pos x.1 x.2 := .inl h
theorem gpow_add (m : Nat) : ∀ (n : Nat) (x : Int × Int), gpow m (gpow n x) = gpow (n + m) x
 | 0, x => by rw [g2a]; rfl
 | n + 1, x => by rw [Nat.succ_add]; exact gpow_add m n _
theorem kc : ∀ (k : Nat) (a b : Int), a.natAbs <= k -> 0 < a -> b < 0 -> 0 < N a b -> ∃ n, Cone (gpow n (a, b)) := by
 intro k
 induction k with
 | zero => intro a b h1 h2; omega
 | succ k ih =>
  intro a b h1 h2 h3 h4
  have hs : 0 < a + b := by
   by_cases h : a + b <= 0
   ·have := WL h2 h; omega
   ·omega
  by_cases hc : 0 <= a + 2 * b
  ·exact ⟨2, (show (0 : Int) <= a + b by omega), (show (0 : Int) <= b + (a + b) by omega), .inl hs⟩
  ·have hN : N (a + b) (b + (a + b)) = N a b := by rw [N_g, N_g]; omega
   obtain ⟨n, hn⟩ := ih (a + b) (b + (a + b)) (by omega) hs (by omega) (by omega)
   exact ⟨n + 2, hn⟩
theorem to_cone {a b : Int} (h : Pos a b) : ∃ n, Cone (gpow n (a, b)) := by
 rcases h with h | ⟨h1, h2, h3⟩ | ⟨h1, h2, h3⟩
 ·exact ⟨0, h⟩
 ·exact kc _ a b (g0o _) h1 h2 h3
 ·by_cases h : 0 <= a + b
  ·exact ⟨1, (show (0 : Int) <= b by omega), h, .inl h2⟩
  ·obtain ⟨n, hn⟩ := kc _ b (a + b) (g0o _) h2 (by omega) (by rw [N_g]; omega)
   exact ⟨n + 1, hn⟩
def ZG (x y : Int × Int) : Int × Int := (x.1 * y.1 + x.2 * y.2, x.1 * y.2 + x.2 * y.1 + x.2 * y.2)
theorem CK (x y : Int × Int) : ZG (x.2, x.1 + x.2) y = ((ZG x y).2, (ZG x y).1 + (ZG x y).2) := by
 unfold ZG
 simp only [Int.add_mul, Prod.mk.injEq]
 omega
theorem Xp (x y : Int × Int) : ZG x y = ZG y x := by
 unfold ZG
 have e1 := Int.mul_comm x.1 y.1
 have e2 := Int.mul_comm x.2 y.2
 have e3 := Int.mul_comm x.1 y.2
 have e4 := Int.mul_comm x.2 y.1
 simp only [Prod.mk.injEq]
 omega
theorem kA : ∀ (n : Nat) (x y : Int × Int), ZG (gpow n x) y = gpow n (ZG x y)
 | 0, _, _ => rfl
 | n + 1, x, y => by
  show ZG (gpow n (x.2, x.1 + x.2)) y = gpow n ((ZG x y).2, (ZG x y).1 + (ZG x y).2)
  rw [kA n, CK]
theorem K2 {x y : Int × Int} (hx : Cone x) (hy : Cone y) : Cone (ZG x y) := by
 obtain ⟨x1, x2, x3⟩ := hx
 obtain ⟨y1, y2, y3⟩ := hy
 have m1 := Int.mul_nonneg x1 y1
 have m2 := Int.mul_nonneg x2 y2
 have m3 := Int.mul_nonneg x1 y2
 have m4 := Int.mul_nonneg x2 y1
 refine ⟨show (0 : Int) <= x.1 * y.1 + x.2 * y.2 by omega, show (0 : Int) <= x.1 * y.2 + x.2 * y.1 + x.2 * y.2 by omega, ?_⟩
 show 0 < x.1 * y.1 + x.2 * y.2 \/ 0 < x.1 * y.2 + x.2 * y.1 + x.2 * y.2
 rcases x3 with x3 | x3 <;> rcases y3 with y3 | y3
 ·have := Int.mul_pos x3 y3; omega
 ·have := Int.mul_pos x3 y3; omega
 ·have := Int.mul_pos x3 y3; omega
 ·have := Int.mul_pos x3 y3; omega
theorem pos_mul {x y : Int × Int} (hx : Pos x.1 x.2) (hy : Pos y.1 y.2) : Pos (ZG x y).1 (ZG x y).2 := by
 obtain ⟨n, hn⟩ := to_cone hx
 obtain ⟨m, hm⟩ := to_cone hy
 have h := cone_pos (K2 hn hm)
 have e : ZG (gpow n (x.1, x.2)) (gpow m (y.1, y.2)) = gpow (m + n) (ZG x y) := by
  rw [kA, Xp, kA, Xp, gpow_add]
 rw [e] at h
 exact (pos_gpow (m + n) (ZG x y)).mpr h
end M02
namespace GH
open FL L2
abbrev Gd := Int × Int
def yE (x y : Gd) : Gd := (x.1 + y.1, x.2 + y.2)
def yM (x : Gd) : Gd := (-x.1, -x.2)
def yO (x y : Gd) : Gd := (x.1 * y.1 + x.2 * y.2, x.1 * y.2 + x.2 * y.1 + x.2 * y.2)
def gD (x : Gd) : D := .tup [.int x.1, .int x.2]
def xn (r : List Gd) : D := .tup (r.map gD)
abbrev T3 := Int × Int × Int
def tD (t : T3) : D := .tup [.int t.1, .int t.2.1, .int t.2.2]
def zi (n : Nat) (ts : List T3) : D := .tup [.int n, .lst (ts.map tD)]
def mlo (i j : Int) : Int := if j < i then j else i
def mhi (i j : Int) : Int := if j > i then j else i
theorem Kr (i j : Int) : mlo i j = mlo j i := by unfold mlo; split <;> split <;> omega
theorem Ku (i j : Int) : mhi i j = mhi j i := by unfold mhi; split <;> split <;> omega
def yQ : List T3 -> Int -> Int -> Int
 | [], _, _ => 2
 | t :: ts, i, j => if t.1 = mlo i j /\ t.2.1 = mhi i j then t.2.2 else yQ ts i j
theorem qT (ts : List T3) (i j : Int) : yQ ts i j = yQ ts j i := by
 induction ts with
 | nil => rfl
 | cons t ts ih => unfold yQ; rw [Kr, Ku, ih]
def yP (ts : List T3) : Prop := ∀ t ∈ ts, t.2.2 = 0 \/ (3 <= t.2.2 /\ t.2.2 <= 6)
theorem vI {ts : List T3} (h : yP ts) (i j : Int) : yQ ts i j = 0 \/ (2 <= yQ ts i j /\ yQ ts i j <= 6) := by
 induction ts with
 | nil => simp [yQ]
 | cons t ts ih =>
  unfold yQ
  split
  ·have := h t g0s; omega
  ·exact ih fun t ht => h t (g0n _ ht)
def zK (m : Int) (less : Bool) : Gd :=
 if m = 0 then (-2, 0) else if m = 2 then (0, 0) else if m = 3 then (-1, 0) else if m = 4 then (if less then (-2, 0) else (-1, 0)) else if m = 5 then (0, -1) else (if less then (-3, 0) else (-1, 0))
def jR (ts : List T3) (i j : Int) : Gd := if i = j then (2, 0) else zK (yQ ts i j) (decide (i < j))
theorem We (m : Int) (b : Bool) : -3 <= (zK m b).1 /\ (zK m b).1 <= 2 /\ -1 <= (zK m b).2 /\ (zK m b).2 <= 0 := by
 unfold zK
 repeat' split
 all_goals decide
theorem qk (ts : List T3) (i j : Int) : -3 <= (jR ts i j).1 /\ (jR ts i j).1 <= 2 /\ -1 <= (jR ts i j).2 /\ (jR ts i j).2 <= 0 := by
 unfold jR
 split
 ·decide
 ·exact We _ _
def y8 (A : Nat -> Gd) : Nat -> List Gd -> Gd -> Gd
 | _, [], acc => acc
 | k, x :: r, acc => y8 A (k + 1) r (yE acc (yO (A k) x))
def vj (A : Nat -> Gd) (i : Nat) (r : List Gd) : List Gd := r.set i (yE (r.getD i (0, 0)) (yM (y8 A 0 r (0, 0))))
theorem z6 (A : Nat -> Gd) (i : Nat) (r : List Gd) : (vj A i r).length = r.length := by simp [vj]
def zR (A : Nat -> Nat -> Gd) (w : List Nat) (r : List Gd) : List Gd := w.foldr (fun i r => vj (A i) i r) r
theorem zC (A : Nat -> Nat -> Gd) (w : List Nat) (r : List Gd) : (zR A w r).length = r.length := by
 induction w with
 | nil => rfl
 | cons i w ih => show (vj (A i) i (zR A w r)).length = _; rw [z6, ih]
theorem xc (A : Nat -> Nat -> Gd) (u v : List Nat) (r : List Gd) : zR A (u ++ v) r = zR A u (zR A v r) := by simp [zR]
def zX (n i : Nat) : List Gd := (g1f n).map fun j => if j = i then (1, 0) else (0, 0)
theorem zg (n i : Nat) : (zX n i).length = n := by simp [zX]
def zd (ts : List T3) : Nat -> Nat -> Gd := fun i j => jR ts (i : Int) (j : Int)
theorem Q9 (x y : Gd) : yE x y = yE y x := by simp [yE, Int.add_comm]
theorem vX (x y z : Gd) : yE (yE x y) z = yE x (yE y z) := by simp [yE, Int.add_assoc]
theorem xQ (x : Gd) : yE x (0, 0) = x := by simp [yE]
theorem xM (x : Gd) : yE (0, 0) x = x := by simp [yE]
theorem Xw (x : Gd) : yM (yM x) = x := by simp [yM]
theorem Q8 (x y : Gd) : yM (yE x y) = yE (yM x) (yM y) := by simp [yE, yM]; omega
theorem KG (x y z : Gd) : yO x (yE y z) = yE (yO x y) (yO x z) := by simp only [yO, yE, Int.mul_add, Prod.mk.injEq]; omega
theorem KF (y : Gd) : yO (2, 0) y = yE y y := by simp only [yO, yE, Int.zero_mul, Prod.mk.injEq]; omega
theorem xy (A : Nat -> Gd) : ∀ (r : List Gd) (k : Nat) (acc : Gd), y8 A k r acc = yE acc (y8 A k r (0, 0))
 | [], k, acc => by simp [y8, xQ]
 | x :: r, k, acc => by
  unfold y8
  rw [xy A r (k + 1) (yE acc _), xy A r (k + 1) (yE (0, 0) _), xM, vX]
theorem ZX (A : Nat -> Gd) : ∀ (r : List Gd) (k i : Nat) (y : Gd), i < r.length -> y8 A k (r.set i (yE (r.getD i (0, 0)) y)) (0, 0) = yE (y8 A k r (0, 0)) (yO (A (k + i)) y)
 | [], _, _, _, h => by simp at h
 | x :: r, k, 0, y, h => by
  simp only [g0e, List.getD_cons_zero, y8, xM, Nat.add_zero]
  rw [xy A r (k + 1) (yO (A k) x), xy A r (k + 1) (yO (A k) (yE x y)), KG, vX, Q9 (yO (A k) y), <- vX]
 | x :: r, k, i + 1, y, h => by
  simp only [g0h, List.getD_cons_succ, y8, xM]
  rw [xy A r (k + 1) (yO (A k) x), xy A _ (k + 1) (yO (A k) x), ZX A r (k + 1) i y (by simpa using h), vX]
  congr 4
  omega
theorem Xr {A : Nat -> Gd} {i : Nat} (h : A i = (2, 0)) (r : List Gd) (hi : i < r.length) : vj A i (vj A i r) = r := by
 unfold vj
 have hs := ZX A r 0 i (yM (y8 A 0 r (0, 0))) hi
 rw [hs, g2a, h, KF, List.set_set]
 have hg : (r.set i (yE (r.getD i (0, 0)) (yM (y8 A 0 r (0, 0))))).getD i (0, 0) = yE (r.getD i (0, 0)) (yM (y8 A 0 r (0, 0))) := by simp [g0l, hi]
 rw [hg]
 generalize y8 A 0 r (0, 0) = S
 have e : yE (yE (r.getD i (0, 0)) (yM S)) (yM (yE S (yE (yM S) (yM S)))) = r.getD i (0, 0) := by
  simp only [yE, yM]
  refine Prod.ext ?_ ?_ <;> simp only [] <;> omega
 rw [e]
 apply g2o
 intro k
 rw [g1a]
 by_cases hk : i = k
 ·subst hk
  simp [hi, g0l]
 ·rw [if_neg hk]
theorem kG {A : Nat -> Nat -> Gd} (h : ∀ i, A i i = (2, 0)) : ∀ (w : List Nat) (r : List Gd), (∀ i ∈ w, i < r.length) -> zR A w.reverse (zR A w r) = r
 | [], r, _ => rfl
 | i :: w, r, hw => by
  rw [g2f, xc]
  show zR A w.reverse (vj (A i) i (vj (A i) i (zR A w r))) = r
  rw [Xr (h i) _ (by rw [zC]; exact hw i g0s)]
  exact kG h w r fun j hj => hw j (g0n _ hj)
theorem zW (ts : List T3) (i : Nat) : zd ts i i = (2, 0) := by simp [zd, jR]
def Y5 (x : Gd) : Int := M02.sgn x.1 x.2
def Bnd (B : Nat) (r : List Gd) : Prop := ∀ x ∈ r, x.1.natAbs <= B /\ x.2.natAbs <= B
theorem Vl {p x : Int} {c B : Nat} (hp : p.natAbs <= c) (hx : x.natAbs <= B) : (p * x).natAbs <= c * B := by
 rw [Int.natAbs_mul]
 exact Nat.mul_le_mul hp hx
theorem HW {p x : Gd} {B : Nat} (hp : -3 <= p.1 /\ p.1 <= 2 /\ -1 <= p.2 /\ p.2 <= 0) (hx : x.1.natAbs <= B /\ x.2.natAbs <= B) : (yO p x).1.natAbs <= 5 * B /\ (yO p x).2.natAbs <= 5 * B := by
 have p1 : p.1.natAbs <= 3 := by omega
 have p2 : p.2.natAbs <= 1 := by omega
 have a := Vl p1 hx.1
 have b := Vl p2 hx.2
 have c := Vl p1 hx.2
 have d := Vl p2 hx.1
 constructor
 ·show (p.1 * x.1 + p.2 * x.2).natAbs <= 5 * B
  omega
 ·show (p.1 * x.2 + p.2 * x.1 + p.2 * x.2).natAbs <= 5 * B
  omega
theorem UO {A : Nat -> Gd} (hA : ∀ k, -3 <= (A k).1 /\ (A k).1 <= 2 /\ -1 <= (A k).2 /\ (A k).2 <= 0) {B : Nat} : ∀ (r : List Gd) (k : Nat), Bnd B r -> (y8 A k r (0, 0)).1.natAbs <= 5 * B * r.length /\ (y8 A k r (0, 0)).2.natAbs <= 5 * B * r.length
 | [], k, _ => by simp [y8]
 | x :: r, k, h => by
  unfold y8
  rw [xy, xM]
  have a := HW (hA k) (h x g0s)
  have b := UO hA r (k + 1) fun y hy => h y (g0n _ hy)
  have e : 5 * B * (x :: r).length = 5 * B * r.length + 5 * B := by rw [g0d, Nat.mul_succ]
  rw [e]
  constructor
  ·show ((yO (A k) x).1 + (y8 A (k + 1) r (0, 0)).1).natAbs <= _
   omega
  ·show ((yO (A k) x).2 + (y8 A (k + 1) r (0, 0)).2).natAbs <= _
   omega
theorem HY {B : Nat} {r : List Gd} (h : Bnd B r) (i : Nat) : (r.getD i (0, 0)).1.natAbs <= B /\ (r.getD i (0, 0)).2.natAbs <= B := by
 rw [g0l]
 cases e : r[i]? with
 | none => simp
 | some x => exact h x (g2g e)
theorem HI {A : Nat -> Gd} (hA : ∀ k, -3 <= (A k).1 /\ (A k).1 <= 2 /\ -1 <= (A k).2 /\ (A k).2 <= 0) {B : Nat} {r : List Gd} (i : Nat) (h : Bnd B r) (hl : r.length <= 6) : Bnd (B * 32) (vj A i r) := fun x hx => by
 unfold vj at hx
 rcases List.mem_or_eq_of_mem_set hx with hx | rfl
 ·have := h x hx; omega
 ·have a := UO hA r 0 h
  have b := HY h i
  have c : 5 * B * r.length <= 5 * B * 6 := Nat.mul_le_mul_left _ hl
  constructor
  ·show ((r.getD i (0, 0)).1 + -(y8 A 0 r (0, 0)).1).natAbs <= _
   omega
  ·show ((r.getD i (0, 0)).2 + -(y8 A 0 r (0, 0)).2).natAbs <= _
   omega
theorem QQ {ts : List T3} {B : Nat} {r : List Gd} (h : Bnd B r) (hl : r.length <= 6) : ∀ w : List Nat, Bnd (B * 32 ^ w.length) (zR (zd ts) w r)
 | [] => by simpa [zR] using h
 | i :: w => by
  have ih := QQ (ts := ts) h hl w
  have := HI (A := zd ts i) (fun k => qk ts i k) i ih (by rw [zC]; exact hl)
  show Bnd _ (vj (zd ts i) i (zR (zd ts) w r))
  rw [g0d, Nat.pow_succ, <- Nat.mul_assoc]
  exact this
theorem GW (n i : Nat) : Bnd 1 (zX n i) := fun x hx => by
 unfold zX at hx
 obtain ⟨j, _, rfl⟩ := g2q.mp hx
 split <;> decide
end GH
namespace GH
def jU (i : Nat) (p : Gd) (r : List Gd) : List Gd := r.set i (yE (r.getD i (0, 0)) p)
theorem xi (i : Nat) (p : Gd) (r : List Gd) : (jU i p r).length = r.length := by simp [jU]
theorem qP {i : Nat} (p q : Gd) {r : List Gd} (h : i < r.length) : jU i p (jU i q r) = jU i (yE q p) r := by
 unfold jU
 have : (r.set i (yE (r.getD i (0, 0)) q)).getD i (0, 0) = yE (r.getD i (0, 0)) q := by simp [g0l, h]
 rw [this, List.set_set, vX]
theorem XW {i j : Nat} (hij : i ≠ j) (p q : Gd) (r : List Gd) : jU i p (jU j q r) = jU j q (jU i p r) := by
 unfold jU
 have e1 : (r.set j (yE (r.getD j (0, 0)) q)).getD i (0, 0) = r.getD i (0, 0) := by simp [g0l, g1a, Ne.symm hij]
 have e2 : (r.set i (yE (r.getD i (0, 0)) p)).getD j (0, 0) = r.getD j (0, 0) := by simp [g0l, g1a, hij]
 rw [e1, e2, List.set_comm _ _ hij]
theorem vy (A : Nat -> Gd) {i : Nat} (p : Gd) {r : List Gd} (h : i < r.length) : y8 A 0 (jU i p r) (0, 0) = yE (y8 A 0 r (0, 0)) (yO (A i) p) := by
 have := ZX A r 0 i p h
 rw [g2a] at this
 exact this
theorem qD (A : Nat -> Gd) (i : Nat) (r : List Gd) : vj A i r = jU i (yM (y8 A 0 r (0, 0))) r := rfl
theorem qO {i : Nat} {r : List Gd} (h : i < r.length) : jU i (0, 0) r = r := by
 unfold jU
 rw [xQ]
 apply g2o
 intro k
 rw [g1a]
 split
 ·next e => subst e; simp [h, g0l]
 ·rfl
abbrev Fm := Gd × Gd
def ev (f : Fm) (x y : Gd) : Gd := yE (yO f.1 x) (yO f.2 y)
def KJ (f g : Fm) : Fm := (yE f.1 g.1, yE f.2 g.2)
def X7 (f : Fm) : Fm := (yM f.1, yM f.2)
def fsc (c : Gd) (f : Fm) : Fm := (yO c f.1, yO c f.2)
theorem jK (f g : Fm) (x y : Gd) : ev (KJ f g) x y = yE (ev f x y) (ev g x y) := by simp only [ev, KJ, yE, yO, Prod.mk.injEq]; constructor <;> grind
theorem uu (f : Fm) (x y : Gd) : ev (X7 f) x y = yM (ev f x y) := by simp only [ev, X7, yE, yM, yO, Prod.mk.injEq]; constructor <;> grind
theorem KL (c : Gd) (f : Fm) (x y : Gd) : ev (fsc c f) x y = yO c (ev f x y) := by simp only [ev, fsc, yE, yO, Prod.mk.injEq]; constructor <;> grind
theorem Jg (x y : Gd) : ev ((0, 0), (0, 0)) x y = (0, 0) := by simp [ev, yE, yO]
structure Tn where
 p : Fm
 q : Fm
 x : Fm
 y : Fm
 deriving DecidableEq
def tn0 : Tn := ⟨((0, 0), (0, 0)), ((0, 0), (0, 0)), ((1, 0), (0, 0)), ((0, 0), (1, 0))⟩
def tnJ (a : Gd) (s : Tn) : Tn := ⟨s.p, KJ s.q (X7 s.y), KJ s.x (fsc a (X7 s.y)), X7 s.y⟩
def tnI (b : Gd) (s : Tn) : Tn := ⟨KJ s.p (X7 s.x), s.q, X7 s.x, KJ s.y (fsc b (X7 s.x))⟩
def tn (a b : Gd) : Nat -> Tn
 | 0 => tn0
 | k + 1 => tnI b (tnJ a (tn a b k))
def Yg (i j : Nat) : Nat -> List Nat
 | 0 => []
 | k + 1 => i :: j :: Yg i j k
theorem ZV (z : Gd) : yE z (yO (2, 0) (yM z)) = yM z := by simp only [yE, yO, yM, Prod.mk.injEq]; constructor <;> grind
theorem CM (A : Nat -> Nat -> Gd) {i j : Nat} (hij : i ≠ j) (hi2 : A i i = (2, 0)) (hj2 : A j j = (2, 0)) {r : List Gd} (hi : i < r.length) (hj : j < r.length) :
  ∀ k : Nat, ∃ R, zR A (Yg i j k) r = R /\ R = jU i (ev (tn (A i j) (A j i) k).p (y8 (A i) 0 r (0, 0)) (y8 (A j) 0 r (0, 0))) (jU j (ev (tn (A i j) (A j i) k).q (y8 (A i) 0 r (0, 0)) (y8 (A j) 0 r (0, 0))) r) ∧
   y8 (A i) 0 R (0, 0) = ev (tn (A i j) (A j i) k).x (y8 (A i) 0 r (0, 0)) (y8 (A j) 0 r (0, 0)) /\ y8 (A j) 0 R (0, 0) = ev (tn (A i j) (A j i) k).y (y8 (A i) 0 r (0, 0)) (y8 (A j) 0 r (0, 0)) := by
 generalize hx : y8 (A i) 0 r (0, 0) = x
 generalize hy : y8 (A j) 0 r (0, 0) = y
 intro k
 induction k with
 | zero =>
  refine ⟨r, rfl, ?_, ?_, ?_⟩
  ·simp only [tn, tn0, Jg]
   rw [qO hj, qO hi]
  ·rw [hx]; simp [tn, tn0, ev, yE, yO]
  ·rw [hy]; simp [tn, tn0, ev, yE, yO]
 | succ k ih =>
  obtain ⟨R, h1, h2, h3, h4⟩ := ih
  have htn : tn (A i j) (A j i) (k + 1) = tnI (A j i) (tnJ (A i j) (tn (A i j) (A j i) k)) := rfl
  rw [htn]
  generalize tn (A i j) (A j i) k = s at h2 h3 h4
  have hRl : R.length = r.length := by rw [h2, xi, xi]
  have e1 : vj (A j) j R = jU j (ev (X7 s.y) x y) R := by rw [qD, h4, uu]
  have sx1 : y8 (A i) 0 (vj (A j) j R) (0, 0) = ev (KJ s.x (fsc (A i j) (X7 s.y))) x y := by
   rw [e1, vy (A i) _ (by omega), h3, jK, KL]
  have sy1 : y8 (A j) 0 (vj (A j) j R) (0, 0) = ev (X7 s.y) x y := by
   rw [e1, vy (A j) _ (by omega), h4, hj2, uu, ZV]
  have b1 : vj (A j) j R = jU i (ev s.p x y) (jU j (ev (KJ s.q (X7 s.y)) x y) r) := by
   rw [e1, h2, <- XW hij, qP _ _ hj, jK]
  generalize vj (A j) j R = R1 at sx1 sy1 b1 e1
  have hRl1 : R1.length = r.length := by rw [b1, xi, xi]
  have hk : zR A (Yg i j (k + 1)) r = vj (A i) i (vj (A j) j (zR A (Yg i j k) r)) := rfl
  have e2 : vj (A i) i R1 = jU i (ev (X7 (KJ s.x (fsc (A i j) (X7 s.y)))) x y) R1 := by rw [qD, sx1, uu]
  refine ⟨vj (A i) i R1, ?_, ?_, ?_, ?_⟩
  ·rw [hk, h1, qD (A j), h4, <- uu, <- e1]
  ·rw [e2, b1, qP _ _ (by rw [xi]; exact hi), <- jK]
   rfl
  ·rw [e2, vy (A i) _ (by omega), sx1, hi2, uu, ZV, <- uu]
   rfl
  ·rw [e2, vy (A j) _ (by omega), sy1, <- KL, <- jK]
   rfl
theorem jV (A : Nat -> Gd) (n i : Nat) (hi : i < n) : y8 A 0 (zX n i) (0, 0) = A i := by
 have gen : ∀ (m k : Nat) (acc : Gd), y8 A k ((g1f m).map fun t => if k + t = i then ((1, 0) : Gd) else (0, 0)) acc = if k <= i /\ i < k + m then yE acc (A i) else acc := by
  intro m
  induction m with
  | zero => intro k acc; simp [y8]; intro h h2; omega
  | succ m ih =>
   intro k acc
   rw [g2b, g0j, g1o]
   have e : ((fun t => if k + t = i then ((1, 0) : Gd) else (0, 0)) ∘ Nat.succ) = fun t => if (k + 1) + t = i then ((1, 0) : Gd) else (0, 0) := by
    funext t
    simp only [Function.comp]
    have : k + t.succ = k + 1 + t := by omega
    rw [this]
   rw [e]
   unfold y8
   rw [ih]
   by_cases h : k = i
   ·subst h
    have z : yO (A k) (1, 0) = A k := by simp [yO]
    simp [z]
    omega
   ·have z : yO (A k) (0, 0) = (0, 0) := by simp [yO]
    simp only [Nat.add_zero, h, if_false, z, xQ]
    by_cases h2 : k + 1 <= i /\ i < k + 1 + m
    ·rw [if_pos h2, if_pos (by omega)]
    ·rw [if_neg h2, if_neg (by omega)]
 have := gen n 0 (0, 0)
 simp only [g2a] at this
 unfold zX
 rw [this, if_pos ⟨g2e _, hi⟩, xM]
theorem Vs : ∀ (n : Nat) (x y : Int × Int), M02.gpow n (x.1 + y.1, x.2 + y.2) = ((M02.gpow n x).1 + (M02.gpow n y).1, (M02.gpow n x).2 + (M02.gpow n y).2)
 | 0, x, y => rfl
 | n + 1, x, y => by
  have := Vs n (x.2, x.1 + x.2) (y.2, y.1 + y.2)
  simp only at this
  unfold M02.gpow
  rw [<- this]
  congr 2
  simp only []
  omega
theorem kX : ∀ (n : Nat) (x : Int × Int), M02.Cone x -> M02.Cone (M02.gpow n x)
 | 0, x, h => h
 | n + 1, x, h => kX n _ ⟨h.2.1, by have := h.1; have := h.2.1; simp only []; omega, by have := h.1; have := h.2.1; have := h.2.2; simp only []; omega⟩
theorem He {x y : Gd} (hx : M02.Pos x.1 x.2) (hy : M02.Pos y.1 y.2) : M02.Pos (yE x y).1 (yE x y).2 := by
 obtain ⟨n, hn⟩ := M02.to_cone hx
 obtain ⟨m, hm⟩ := M02.to_cone hy
 have h1 : M02.Cone (M02.gpow m (M02.gpow n x)) := kX m _ hn
 have h2 : M02.Cone (M02.gpow n (M02.gpow m y)) := kX n _ hm
 rw [M02.gpow_add] at h1 h2
 rw [Nat.add_comm m n] at h2
 rw [M02.pos_gpow (n + m) (yE x y)]
 apply M02.cone_pos
 have e := Vs (n + m) x y
 unfold yE
 rw [e]
 obtain ⟨a1, a2, a3⟩ := h1
 obtain ⟨b1, b2, b3⟩ := h2
 exact ⟨by simp only []; omega, by simp only []; omega, by simp only []; omega⟩
def nn (x : Gd) : Prop := x = (0, 0) \/ M02.Pos x.1 x.2
theorem QD {x y : Gd} (hx : nn x) (hy : nn y) : nn (yE x y) := by
 rcases hx with rfl | hx
 ·rw [xM]; exact hy
 ·rcases hy with rfl | hy
  ·rw [xQ]; exact .inr hx
  ·exact .inr (He hx hy)
theorem QC {x y : Gd} (hx : nn x) (hy : nn y) : nn (yO x y) := by
 rcases hx with rfl | hx
 ·left; simp [yO]
 ·rcases hy with rfl | hy
  ·left; simp [yO]
  ·exact .inr (M02.pos_mul hx hy)
theorem Wh {x : Gd} (h : M02.Pos x.1 x.2) : ¬ M02.Pos (yM x).1 (yM x).2 := by
 intro h'
 have e1 := M02.sgn_pos h
 have e2 := M02.sgn_pos h'
 have := M02.sgn_opp x.1 x.2
 simp only [yM] at e2
 omega
theorem HC {x : Gd} (h : nn x) (h' : nn (yM x)) : x = (0, 0) := by
 rcases h with h | h
 ·exact h
 ·rcases h' with h' | h'
  ·have := congrArg yM h'
   rw [Xw] at this
   rw [this]; rfl
  ·exact absurd h' (Wh h)
def nnb (x : Gd) : Bool := decide (0 <= M02.sgn x.1 x.2)
theorem QB {x : Gd} (h : nnb x = true) : nn x := by
 unfold nnb at h
 rw [decide_eq_true_eq] at h
 rcases M02.pos_cases x.1 x.2 with ⟨h1, h2⟩ | hp | hp
 ·exact .inl (Prod.ext h1 h2)
 ·exact .inr hp
 ·have := M02.sgn_pos hp
  rw [M02.sgn_opp] at this
  omega
theorem Xo (k : Int) (h : 0 <= k) : nn (k, 0) := by
 by_cases c : k = 0
 ·left; rw [c]
 ·exact .inr (.inl ⟨h, Int.le_refl _, .inl (by omega)⟩)
theorem Gb {x : Gd} (h : nn x) : Y5 x ≠ -1 := by
 rcases h with rfl | h
 ·decide
 ·unfold Y5; rw [M02.sgn_pos h]; decide
theorem BP {x : Gd} (h : nn (yM x)) : Y5 x ≠ 1 := by
 have := Gb h
 unfold Y5 yM at *
 rw [M02.sgn_opp] at this
 omega
def Yb (r s : List Gd) : List Gd := List.zipWith yE r s
def rsc (c : Gd) (r : List Gd) : List Gd := r.map (yO c)
theorem xC {r s : List Gd} (h : r.length = s.length) : (Yb r s).length = r.length := by simp [Yb, h]
theorem zF (c : Gd) (r : List Gd) : (rsc c r).length = r.length := by simp [rsc]
theorem va {r s : List Gd} (h : r.length = s.length) (e : ∀ k, k < r.length -> r.getD k (0, 0) = s.getD k (0, 0)) : r = s := by
 apply List.ext_getElem h
 intro k h1 h2
 have := e k h1
 simpa [g0l, h1, h2] using this
theorem wK {r s : List Gd} (h : r.length = s.length) (k : Nat) : (Yb r s).getD k (0, 0) = yE (r.getD k (0, 0)) (s.getD k (0, 0)) := by
 unfold Yb
 simp only [g0l, List.getElem?_zipWith]
 by_cases hk : k < r.length
 ·simp [hk, h ▸ hk]
 ·have h2 : ¬ k < s.length := by omega
  simp [g1e (g3f.mp hk), g1e (g3f.mp h2), yE]
theorem xB (c : Gd) (r : List Gd) (k : Nat) : (rsc c r).getD k (0, 0) = yO c (r.getD k (0, 0)) := by
 unfold rsc
 simp only [g0l, g0w]
 by_cases hk : k < r.length
 ·simp [hk]
 ·simp [g1e (g3f.mp hk), yO]
theorem x8 (A : Nat -> Gd) {i : Nat} {r : List Gd} (hi : i < r.length) (k : Nat) : (vj A i r).getD k (0, 0) = if k = i then yE (r.getD i (0, 0)) (yM (y8 A 0 r (0, 0))) else r.getD k (0, 0) := by
 unfold vj
 simp only [g0l, g1a]
 by_cases h : k = i
 ·subst h; simp [hi]
 ·have : ¬ i = k := fun e => h e.symm
  simp [h, this]
theorem ZZ (A : Nat -> Gd) : ∀ (r s : List Gd) (k : Nat), r.length = s.length -> y8 A k (Yb r s) (0, 0) = yE (y8 A k r (0, 0)) (y8 A k s (0, 0))
 | [], [], k, _ => rfl
 | [], _ :: _, _, h => by cases h
 | _ :: _, [], _, h => by cases h
 | x :: r, y :: s, k, h => by
  have ih := ZZ A r s (k + 1) (by simpa using h)
  unfold Yb at ih ⊢
  simp only [List.zipWith_cons_cons, y8, xM]
  rw [xy A (List.zipWith yE r s), ih, xy A r (k + 1) (yO (A k) x), xy A s (k + 1) (yO (A k) y)]
  generalize y8 A (k + 1) r (0, 0) = p
  generalize y8 A (k + 1) s (0, 0) = q
  simp only [yE, yO, Prod.mk.injEq]
  constructor <;> grind
theorem ZY (A : Nat -> Gd) (c : Gd) : ∀ (r : List Gd) (k : Nat), y8 A k (rsc c r) (0, 0) = yO c (y8 A k r (0, 0))
 | [], k => by simp [rsc, y8, yO]
 | x :: r, k => by
  have ih := ZY A c r (k + 1)
  unfold rsc at ih ⊢
  simp only [g0j, y8, xM]
  rw [xy A (List.map (yO c) r), ih, xy A r (k + 1) (yO (A k) x)]
  generalize y8 A (k + 1) r (0, 0) = p
  simp only [yE, yO, Prod.mk.injEq]
  constructor <;> grind
theorem Ks (A : Nat -> Gd) {i : Nat} {r s : List Gd} (h : r.length = s.length) (hi : i < r.length) : vj A i (Yb r s) = Yb (vj A i r) (vj A i s) := by
 have hl : (vj A i r).length = (vj A i s).length := by rw [z6, z6, h]
 apply va (by rw [z6, xC h, xC hl, z6])
 intro k _
 rw [x8 A (by rw [xC h]; exact hi), wK hl, x8 A hi, x8 A (h ▸ hi), wK h, wK h, ZZ A r s 0 h]
 split
 ·simp only [yE, yM, Prod.mk.injEq]; constructor <;> omega
 ·rfl
theorem HH (A : Nat -> Gd) {i : Nat} (c : Gd) {r : List Gd} (hi : i < r.length) : vj A i (rsc c r) = rsc c (vj A i r) := by
 apply va (by rw [z6, zF, zF, z6])
 intro k _
 rw [x8 A (by rw [zF]; exact hi), ZY]
 simp only [xB]
 rw [x8 A hi]
 split
 ·simp only [yE, yM, yO, Prod.mk.injEq]; constructor <;> grind
 ·rfl
def InW (n : Nat) (w : List Nat) : Prop := ∀ i ∈ w, i < n
theorem InW.app {n : Nat} {u v : List Nat} (hu : InW n u) (hv : InW n v) : InW n (u ++ v) := fun i hi => (g1h.mp hi).elim (hu i) (hv i)
theorem InW.left {n : Nat} {u v : List Nat} (h : InW n (u ++ v)) : InW n u := fun i hi => h i (g1h.mpr (.inl hi))
theorem InW.right {n : Nat} {u v : List Nat} (h : InW n (u ++ v)) : InW n v := fun i hi => h i (g1h.mpr (.inr hi))
theorem InW.rev {n : Nat} {u : List Nat} (h : InW n u) : InW n u.reverse := fun i hi => h i (by simpa using hi)
theorem InW.one {n i : Nat} (h : i < n) : InW n [i] := fun k hk => by simp at hk; omega
theorem InW.cons {n i : Nat} {u : List Nat} (h : i < n) (hu : InW n u) : InW n (i :: u) := fun k hk => by
 rcases g0m.mp hk with rfl | hk
 ·exact h
 ·exact hu k hk
section
variable (A : Nat -> Nat -> Gd)
theorem xw (i : Nat) (w : List Nat) (r : List Gd) : zR A (i :: w) r = vj (A i) i (zR A w r) := rfl
theorem qH : ∀ (w : List Nat) {r s : List Gd}, r.length = s.length -> InW r.length w -> zR A w (Yb r s) = Yb (zR A w r) (zR A w s)
 | [], r, s, h, hw => rfl
 | i :: w, r, s, h, hw => by
  rw [xw, xw, xw, qH w h (fun k hk => hw k (g0n _ hk)), Ks (A i) (by rw [zC, zC, h]) (by rw [zC]; exact hw i g0s)]
theorem uf (c : Gd) : ∀ (w : List Nat) {r : List Gd}, InW r.length w -> zR A w (rsc c r) = rsc c (zR A w r)
 | [], r, hw => rfl
 | i :: w, r, hw => by
  rw [xw, xw, uf c w (fun k hk => hw k (g0n _ hk)), HH (A i) c (by rw [zC]; exact hw i g0s)]
def Eqv (n : Nat) (u v : List Nat) : Prop := ∀ r : List Gd, r.length = n -> zR A u r = zR A v r
variable {A} {n : Nat}
theorem Eqv.rfl' (u : List Nat) : Eqv A n u u := fun _ _ => rfl
theorem Eqv.symm {u v : List Nat} (h : Eqv A n u v) : Eqv A n v u := fun r hr => (h r hr).symm
theorem Eqv.trans {u v w : List Nat} (h : Eqv A n u v) (h' : Eqv A n v w) : Eqv A n u w := fun r hr => (h r hr).trans (h' r hr)
theorem Eqv.app {u v u' v' : List Nat} (h : Eqv A n u u') (h' : Eqv A n v v') : Eqv A n (u ++ v) (u' ++ v') := fun r hr => by
 rw [xc, xc, h' r hr, h _ (by rw [zC, hr])]
variable (h2 : ∀ i, A i i = (2, 0))
include h2
theorem Eqv.twice {s : Nat} (hs : s < n) : Eqv A n [s, s] [] := fun r hr => Xr (h2 s) r (by omega)
theorem Yr {w : List Nat} (hw : InW n w) : Eqv A n (w.reverse ++ w) [] := fun r hr => by
 rw [xc]
 exact kG h2 w r (fun i hi => by rw [hr]; exact hw i hi)
theorem kN {w : List Nat} (hw : InW n w) : Eqv A n (w ++ w.reverse) [] := by
 have := Yr h2 hw.rev
 rwa [g1z] at this
theorem Eqv.rev {u v : List Nat} (hu : InW n u) (hv : InW n v) (h : Eqv A n u v) : Eqv A n u.reverse v.reverse := by
 have a1 : Eqv A n (u.reverse ++ (v ++ v.reverse)) (u.reverse ++ []) := (Eqv.rfl' _).app (kN h2 hv)
 have a2 : Eqv A n ((u.reverse ++ v) ++ v.reverse) ((u.reverse ++ u) ++ v.reverse) := ((Eqv.rfl' _).app h.symm).app (Eqv.rfl' _)
 have a3 : Eqv A n ((u.reverse ++ u) ++ v.reverse) ([] ++ v.reverse) := (Yr h2 hu).app (Eqv.rfl' _)
 rw [g0t, <- g1g] at a1
 exact a1.symm.trans (a2.trans a3)
theorem XC {w : List Nat} {s : Nat} (hs : s < n) : Eqv A n ((w ++ [s]) ++ [s]) w := by
 have := (Eqv.rfl' (A := A) (n := n) w).app (Eqv.twice h2 hs)
 rw [g0t] at this
 simpa using this
end
theorem ZL {α : Type} (P : α -> Prop) (f : α -> Nat) (h : ∃ x, P x) : ∃ x, P x /\ ∀ y, P y -> f x <= f y := by
 obtain ⟨x, hx⟩ := h
 have gen : ∀ k x, P x -> f x = k -> ∃ x, P x /\ ∀ y, P y -> f x <= f y := by
  intro k
  induction k using Nat.strongRecOn with
  | ind k ih =>
   intro x hx hk
   by_cases c : ∃ y, P y /\ f y < f x
   ·obtain ⟨y, hy, hl⟩ := c
    exact ih (f y) (by omega) y hy rfl
   ·exact ⟨x, hx, fun y hy => g3f.mp fun hl => c ⟨y, hy, hl⟩⟩
 exact gen _ x hx rfl
section
variable (A : Nat -> Nat -> Gd) (n : Nat)
def Red (w : List Nat) : Prop := InW n w /\ ∀ u, InW n u -> Eqv A n u w -> w.length <= u.length
def qs (w : List Nat) (s : Nat) : Prop := ∀ u, InW n u -> Eqv A n u (w ++ [s]) -> w.length <= u.length
theorem ZA {w : List Nat} (hw : InW n w) : ∃ u, Red A n u /\ Eqv A n u w := by
 obtain ⟨u, ⟨h1, h3⟩, h4⟩ := ZL (fun u => InW n u /\ Eqv A n u w) g2u ⟨w, hw, Eqv.rfl' w⟩
 exact ⟨u, ⟨h1, fun v hv e => h4 v ⟨hv, e.trans h3⟩⟩, h3⟩
end
def sel (s t : Nat) : Bool -> Nat := fun b => if b = true then s else t
def tnW (a b : Gd) : List Bool -> Tn
 | [] => tn0
 | c :: l => if c = true then tnI b (tnW a b l) else tnJ a (tnW a b l)
def alt : Nat -> List Bool
 | 0 => []
 | k + 1 => decide (k % 2 = 1) :: alt k
theorem x6 : ∀ k, (alt k).length = k
 | 0 => rfl
 | k + 1 => by rw [alt, g0d, x6 k]
theorem Za {m : Nat} : ∀ {k : Nat}, m <= k -> ∃ pre, alt k = pre ++ alt m
  | 0, h => ⟨[], by have : m = 0 := by omega
                    subst this; rfl⟩
  | k + 1, h => by
    by_cases c : m = k + 1
    · exact ⟨[], by rw [c]; rfl⟩
    · obtain ⟨pre, e⟩ := Za (m := m) (k := k) (by omega)
      exact ⟨decide (k % 2 = 1) :: pre, by rw [alt, e]; rfl⟩
theorem VG : ∀ k, ∃ x, alt (k + 1) = x ++ [false] /\ x.length = k
 | 0 => ⟨[], rfl, rfl⟩
 | k + 1 => by
  obtain ⟨x, e, h⟩ := VG k
  exact ⟨decide ((k + 1) % 2 = 1) :: x, by rw [alt, e]; rfl, by simp [h]⟩
theorem VF : ∀ a : List Bool, (∀ x b y, a ≠ x ++ b :: b :: y) -> (∀ x, a ≠ x ++ [true]) -> a = alt a.length
 | [], _, _ => rfl
 | b :: a, h1, h2 => by
  have ih := VF a (fun x c y e => h1 (b :: x) c y (by rw [e]; rfl)) (fun x e => h2 (b :: x) (by rw [e]; rfl))
  cases a with
  | nil =>
   cases b with
   | true => exact absurd rfl (h2 [])
   | false => rfl
  | cons c a =>
   rw [g0d] at ih ⊢
   have e1 : c = decide (a.length % 2 = 1) := by
    rw [alt] at ih
    exact (List.cons.inj ih).1
   have e2 : b ≠ c := fun e => h1 [] b a (by rw [e]; rfl)
   rw [g0d, alt, <- ih]
   congr 1
   by_cases c1 : a.length % 2 = 1
   ·have c2 : ¬ ((a.length + 1) % 2 = 1) := by omega
    simp only [c1, c2, decide_true, decide_false] at e1 ⊢
    cases b <;> simp_all
   ·have c2 : (a.length + 1) % 2 = 1 := by omega
    simp only [c1, c2, decide_true, decide_false] at e1 ⊢
    cases b <;> simp_all
section
variable {A : Nat -> Nat -> Gd} {s t n : Nat} (hst : s ≠ t) (hs2 : A s s = (2, 0)) (ht2 : A t t = (2, 0))
include hst hs2 ht2
theorem Xt {r : List Gd} (hs : s < r.length) (ht : t < r.length) : ∀ l : List Bool, ∃ R, zR A (l.map (sel s t)) r = R /\ R = jU s (ev (tnW (A s t) (A t s) l).p (y8 (A s) 0 r (0, 0)) (y8 (A t) 0 r (0, 0))) (jU t (ev (tnW (A s t) (A t s) l).q (y8 (A s) 0 r (0, 0)) (y8 (A t) 0 r (0, 0))) r) ∧
      y8 (A s) 0 R (0, 0) = ev (tnW (A s t) (A t s) l).x (y8 (A s) 0 r (0, 0)) (y8 (A t) 0 r (0, 0)) /\ y8 (A t) 0 R (0, 0) = ev (tnW (A s t) (A t s) l).y (y8 (A s) 0 r (0, 0)) (y8 (A t) 0 r (0, 0)) := by
  generalize hx : y8 (A s) 0 r (0, 0) = x
  generalize hy : y8 (A t) 0 r (0, 0) = y
  intro l
  induction l with
  | nil =>
    refine ⟨r, rfl, ?_, ?_, ?_⟩
    · simp only [tnW, tn0, Jg]
      rw [qO ht, qO hs]
    · rw [hx]; simp [tnW, tn0, ev, yE, yO]
    · rw [hy]; simp [tnW, tn0, ev, yE, yO]
  | cons c l ih =>
    obtain ⟨R, h1, h2, h3, h4⟩ := ih
    have hRl : R.length = r.length := by rw [h2, xi, xi]
    cases c with
    | false =>
      have htn : tnW (A s t) (A t s) (false :: l) = tnJ (A s t) (tnW (A s t) (A t s) l) := rfl
      rw [htn]
      generalize tnW (A s t) (A t s) l = z at h2 h3 h4
      have e1 : vj (A t) t R = jU t (ev (X7 z.y) x y) R := by rw [qD, h4, uu]
      refine ⟨vj (A t) t R, ?_, ?_, ?_, ?_⟩
      · rw [g0j, xw, h1]; rfl
      · rw [e1, h2, <- XW hst, qP _ _ ht, <- jK]; rfl
      · rw [e1, vy (A s) _ (by omega), h3, <- KL, <- jK]; rfl
      · rw [e1, vy (A t) _ (by omega), h4, ht2, uu, ZV, <- uu]; rfl
    | true =>
      have htn : tnW (A s t) (A t s) (true :: l) = tnI (A t s) (tnW (A s t) (A t s) l) := rfl
      rw [htn]
      generalize tnW (A s t) (A t s) l = z at h2 h3 h4
      have e2 : vj (A s) s R = jU s (ev (X7 z.x) x y) R := by rw [qD, h3, uu]
      refine ⟨vj (A s) s R, ?_, ?_, ?_, ?_⟩
      · rw [g0j, xw, h1]; rfl
      · rw [e2, h2, qP _ _ (by rw [xi]; exact hs), <- jK]; rfl
      · rw [e2, vy (A s) _ (by omega), h3, hs2, uu, ZV, <- uu]; rfl
      · rw [e2, vy (A t) _ (by omega), h4, <- KL, <- jK]; rfl
theorem qL (hs : s < n) (ht : t < n) {l l' : List Bool} (hp : (tnW (A s t) (A t s) l).p = (tnW (A s t) (A t s) l').p) (hq : (tnW (A s t) (A t s) l).q = (tnW (A s t) (A t s) l').q) : Eqv A n (l.map (sel s t)) (l'.map (sel s t)) := fun r hr => by
 obtain ⟨R, h1, h2, _⟩ := Xt hst hs2 ht2 (r := r) (by omega) (by omega) l
 obtain ⟨R', h1', h2', _⟩ := Xt hst hs2 ht2 (r := r) (by omega) (by omega) l'
 rw [h1, h1', h2, h2', hp, hq]
end
theorem kY (b : Bool) {m : Nat} (h : 2 <= m /\ m <= 6) : (tnW (zK (m : Int) b) (zK (m : Int) (!b)) (alt m)).p = (tnW (zK (m : Int) b) (zK (m : Int) (!b)) ((alt m).map (!·))).p /\ (tnW (zK (m : Int) b) (zK (m : Int) (!b)) (alt m)).q = (tnW (zK (m : Int) b) (zK (m : Int) (!b)) ((alt m).map (!·))).q := by
 rcases (by omega : m = 2 \/ m = 3 \/ m = 4 \/ m = 5 \/ m = 6) with e | e | e | e | e <;> subst e <;> cases b <;> decide +kernel
theorem xA {n i k : Nat} (h : k < n) : (zX n i).getD k (0, 0) = if k = i then (1, 0) else (0, 0) := by
 unfold zX
 simp [g0l, h]
def UD (n s t : Nat) (p q : Gd) : List Gd := Yb (rsc p (zX n s)) (rsc q (zX n t))
theorem yC (n s t : Nat) (p q : Gd) : (UD n s t p q).length = n := by
 unfold UD
 rw [xC (by rw [zF, zF, zg, zg]), zF, zg]
theorem jZ (c : Gd) : yO c (1, 0) = c := by simp [yO]
theorem qJ (c : Gd) : yO c (0, 0) = (0, 0) := by simp [yO]
theorem wM {n s t k : Nat} (p q : Gd) (hk : k < n) : (UD n s t p q).getD k (0, 0) = yE (if k = s then p else (0, 0)) (if k = t then q else (0, 0)) := by
 unfold UD
 rw [wK (by rw [zF, zF, zg, zg]), xB, xB, xA hk, xA hk]
 by_cases h1 : k = s <;> by_cases h2 : k = t <;> simp only [h1, h2, if_true, if_false, jZ, qJ] <;> split <;> simp [jZ, qJ]
theorem VA (A : Nat -> Gd) {n s t : Nat} (p q : Gd) (hs : s < n) (ht : t < n) : y8 A 0 (UD n s t p q) (0, 0) = yE (yO p (A s)) (yO q (A t)) := by
 unfold UD
 rw [ZZ A _ _ 0 (by rw [zF, zF, zg, zg]), ZY, ZY, jV A n s hs, jV A n t ht]
theorem Df {A : Nat -> Nat -> Gd} {n s t : Nat} (hst : s ≠ t) (hs2 : A s s = (2, 0)) (p q : Gd) (hs : s < n) (ht : t < n) : vj (A s) s (UD n s t p q) = UD n s t (yM (yE p (yO (A s t) q))) q := by
 apply va (by rw [z6, yC, yC])
 intro k hk
 rw [z6, yC] at hk
 rw [x8 (A s) (by rw [yC]; exact hs), VA (A s) p q hs ht, wM p q hk, wM _ q hk, wM p q hs, hs2]
 by_cases c : k = s
 ·subst c
  simp only [if_true, hst, if_false, xQ, yE, yM, yO, Prod.mk.injEq]
  constructor <;> grind
 ·simp only [c, if_false]
theorem De {A : Nat -> Nat -> Gd} {n s t : Nat} (hst : s ≠ t) (ht2 : A t t = (2, 0)) (p q : Gd) (hs : s < n) (ht : t < n) : vj (A t) t (UD n s t p q) = UD n s t p (yM (yE q (yO (A t s) p))) := by
 apply va (by rw [z6, yC, yC])
 intro k hk
 rw [z6, yC] at hk
 rw [x8 (A t) (by rw [yC]; exact ht), VA (A t) p q hs ht, wM p q hk, wM p _ hk, wM p q ht, ht2]
 by_cases c : k = t
 ·subst c
  simp only [if_true, Ne.symm hst, if_false, xM, yE, yM, yO, Prod.mk.injEq]
  constructor <;> grind
 ·simp only [c, if_false]
def pqA (a b : Gd) : Nat -> Gd × Gd
 | 0 => ((1, 0), (0, 0))
 | k + 1 => if k % 2 = 1 then (yM (yE (pqA a b k).1 (yO a (pqA a b k).2)), (pqA a b k).2) else ((pqA a b k).1, yM (yE (pqA a b k).2 (yO b (pqA a b k).1)))
theorem Wu {A : Nat -> Nat -> Gd} {n s t : Nat} (hst : s ≠ t) (hs2 : A s s = (2, 0)) (ht2 : A t t = (2, 0)) (hs : s < n) (ht : t < n) : ∀ k, zR A ((alt k).map (sel s t)) (zX n s) = UD n s t (pqA (A s t) (A t s) k).1 (pqA (A s t) (A t s) k).2
 | 0 => by
  apply va (by rw [zC, yC, zg])
  intro k hk
  rw [zC, zg] at hk
  rw [wM _ _ hk]
  show (zX n s).getD k (0, 0) = _
  rw [xA hk]
  by_cases c : k = s <;> simp [pqA, c, yE]
 | k + 1 => by
  have ih := Wu hst hs2 ht2 hs ht k
  rw [alt, g0j, xw, ih, pqA]
  by_cases c : k % 2 = 1
  ·have e : sel s t (decide (k % 2 = 1)) = s := by simp [sel, c]
   rw [e, if_pos c, Df hst hs2 _ _ hs ht]
  ·have e : sel s t (decide (k % 2 = 1)) = t := by simp [sel, c]
   rw [e, if_neg c, De hst ht2 _ _ hs ht]
def PQ (x : Gd × Gd) : Prop := nn x.1 /\ nn x.2 /\ (x.2 = (0, 0) -> x.1 = (1, 0)) /\ (x.1 = (0, 0) -> x.2 = (1, 0))
theorem Gj (b : Bool) {m : Nat} (h : 2 <= m /\ m <= 6) {k : Nat} (hk : k < m) : PQ (pqA (zK (m : Int) b) (zK (m : Int) (!b)) k) := by
 have key : ∀ m : Fin 7, 2 <= m.1 -> ∀ b : Bool, ∀ k : Fin 7, k.1 < m.1 -> nnb (pqA (zK (m.1 : Int) b) (zK (m.1 : Int) (!b)) k.1).1 = true /\ nnb (pqA (zK (m.1 : Int) b) (zK (m.1 : Int) (!b)) k.1).2 = true ∧
   ((pqA (zK (m.1 : Int) b) (zK (m.1 : Int) (!b)) k.1).2 = (0, 0) -> (pqA (zK (m.1 : Int) b) (zK (m.1 : Int) (!b)) k.1).1 = (1, 0)) /\ ((pqA (zK (m.1 : Int) b) (zK (m.1 : Int) (!b)) k.1).1 = (0, 0) -> (pqA (zK (m.1 : Int) b) (zK (m.1 : Int) (!b)) k.1).2 = (1, 0)) := by decide +kernel
 have := key ⟨m, by omega⟩ h.1 b ⟨k, by omega⟩ hk
 exact ⟨QB this.1, QB this.2.1, this.2.2.1, this.2.2.2⟩
theorem jW : ∀ k : Nat, pqA (-2, 0) (-2, 0) k = if k % 2 = 1 then (((k : Int), 0), ((k : Int) + 1, 0)) else (((k : Int) + 1, 0), ((k : Int), 0))
 | 0 => rfl
 | k + 1 => by
  rw [pqA, jW k]
  by_cases c : k % 2 = 1
  ·have c2 : ¬ ((k + 1) % 2 = 1) := by omega
   rw [if_pos c, if_pos c, if_neg c2]
   refine Prod.ext (Prod.ext ?_ ?_) (Prod.ext ?_ ?_) <;> simp only [yM, yE, yO] <;> grind
  ·have c2 : (k + 1) % 2 = 1 := by omega
   rw [if_neg c, if_neg c, if_pos c2]
   refine Prod.ext (Prod.ext ?_ ?_) (Prod.ext ?_ ?_) <;> simp only [yM, yE, yO] <;> grind
theorem km (k : Nat) : PQ (pqA (-2, 0) (-2, 0) k) := by
 rw [jW]
 split
 ·refine ⟨Xo _ (by omega), Xo _ (by omega), fun e => ?_, fun e => ?_⟩
  ·have := congrArg Prod.fst e; simp only at this; omega
  ·have := congrArg Prod.fst e; simp only at this; omega
 ·refine ⟨Xo _ (by omega), Xo _ (by omega), fun e => ?_, fun e => ?_⟩
  ·have := congrArg Prod.fst e
   simp only at this ⊢
   rw [this]; rfl
  ·have := congrArg Prod.fst e; simp only at this; omega
theorem JQ (b : Bool) {m : Nat} (h : 2 <= m /\ m <= 6) {k : Nat} (hk : k < m) :
  ((pqA (zK (m : Int) b) (zK (m : Int) (!b)) k).2 = (0, 0) -> (tnW (zK (m : Int) b) (zK (m : Int) (!b)) (alt k ++ [true])).p = (tnW (zK (m : Int) b) (zK (m : Int) (!b)) (true :: alt k)).p /\ (tnW (zK (m : Int) b) (zK (m : Int) (!b)) (alt k ++ [true])).q = (tnW (zK (m : Int) b) (zK (m : Int) (!b)) (true :: alt k)).q) ∧
  ((pqA (zK (m : Int) b) (zK (m : Int) (!b)) k).1 = (0, 0) -> (tnW (zK (m : Int) b) (zK (m : Int) (!b)) (alt k ++ [true])).p = (tnW (zK (m : Int) b) (zK (m : Int) (!b)) (false :: alt k)).p /\ (tnW (zK (m : Int) b) (zK (m : Int) (!b)) (alt k ++ [true])).q = (tnW (zK (m : Int) b) (zK (m : Int) (!b)) (false :: alt k)).q) := by
 have key : ∀ m : Fin 7, 2 <= m.1 -> ∀ b : Bool, ∀ k : Fin 7, k.1 < m.1 →
  ((pqA (zK (m.1 : Int) b) (zK (m.1 : Int) (!b)) k.1).2 = (0, 0) -> (tnW (zK (m.1 : Int) b) (zK (m.1 : Int) (!b)) (alt k.1 ++ [true])).p = (tnW (zK (m.1 : Int) b) (zK (m.1 : Int) (!b)) (true :: alt k.1)).p /\ (tnW (zK (m.1 : Int) b) (zK (m.1 : Int) (!b)) (alt k.1 ++ [true])).q = (tnW (zK (m.1 : Int) b) (zK (m.1 : Int) (!b)) (true :: alt k.1)).q) ∧
  ((pqA (zK (m.1 : Int) b) (zK (m.1 : Int) (!b)) k.1).1 = (0, 0) -> (tnW (zK (m.1 : Int) b) (zK (m.1 : Int) (!b)) (alt k.1 ++ [true])).p = (tnW (zK (m.1 : Int) b) (zK (m.1 : Int) (!b)) (false :: alt k.1)).p /\ (tnW (zK (m.1 : Int) b) (zK (m.1 : Int) (!b)) (alt k.1 ++ [true])).q = (tnW (zK (m.1 : Int) b) (zK (m.1 : Int) (!b)) (false :: alt k.1)).q) := by decide +kernel
 exact key ⟨m, by omega⟩ h.1 b ⟨k, by omega⟩ hk
theorem Yc (ts : List T3) {i j : Nat} (hij : i ≠ j) : zd ts i j = zK (yQ ts i j) (decide (i < j)) /\ zd ts j i = zK (yQ ts i j) (!decide (i < j)) := by
 unfold zd jR
 have h1 : ¬ ((i : Int) = (j : Int)) := by omega
 have h2 : ¬ ((j : Int) = (i : Int)) := by omega
 rw [if_neg h1, if_neg h2, qT ts j i]
 refine ⟨by congr 1; simp, ?_⟩
 congr 1
 by_cases c : i < j
 ·have : ¬ ((j : Int) < (i : Int)) := by omega
  simp [c, this]
 ·have : (j : Int) < (i : Int) := by omega
  simp [c, this]
def NNr (r : List Gd) : Prop := ∀ k, nn (r.getD k (0, 0))
theorem UR {ts : List T3} (hg : yP ts) {n : Nat} (w : List Nat) (s : Nat) (hs : s < n) (hw : Red (zd ts) n w) (hd : qs (zd ts) n w s) (hnil : w ≠ []) : ∃ (v : List Nat) (t : Nat) (x : Gd × Gd), v.length < w.length /\ t < n /\ t ≠ s /\ Red (zd ts) n v /\ qs (zd ts) n v s /\ qs (zd ts) n v t /\ PQ x ∧
    zR (zd ts) w (zX n s) = Yb (rsc x.1 (zR (zd ts) v (zX n s))) (rsc x.2 (zR (zd ts) v (zX n t))) ∧
    ∃ b : List Nat, InW n b /\ Eqv (zd ts) n (v ++ b) w /\ (x.2 = (0, 0) -> Eqv (zd ts) n (b ++ [s]) (s :: b)) /\ (x.1 = (0, 0) -> Eqv (zd ts) n (b ++ [s]) (t :: b)) := by
  have h2 := zW ts
  obtain ⟨w', t, rfl⟩ : ∃ w' t, w = w' ++ [t] := ⟨w.dropLast, w.getLast hnil, (List.dropLast_concat_getLast hnil).symm⟩
  have ht : t < n := hw.1 t (by simp)
  have hw' : InW n w' := hw.1.left
  have hst : s ≠ t := by
    intro e
    subst e
    have := hd w' hw' (XC h2 hs).symm
    simp at this
    omega
  have hsel : ∀ b, sel s t b < n := fun b => by cases b <;> simp [sel] <;> assumption
  have hmapW : ∀ l : List Bool, InW n (l.map (sel s t)) := fun l i hi => by
    obtain ⟨b, _, rfl⟩ := g2q.mp hi
    exact hsel b
  obtain ⟨⟨v, a⟩, ⟨hv, he, hl⟩, hmin⟩ := ZL (fun p : List Nat × List Bool => InW n p.1 /\ Eqv (zd ts) n (p.1 ++ p.2.map (sel s t)) (w' ++ [t]) /\ p.1.length + p.2.length = (w' ++ [t]).length) (fun p => p.1.length) ⟨(w', [false]), hw', Eqv.rfl' _, by simp⟩
  simp only at hv he hl hmin
  have hv1 : v.length <= w'.length := hmin (w', [false]) ⟨hw', Eqv.rfl' _, by simp⟩
  have hwl : (w' ++ [t]).length = w'.length + 1 := by simp
  have vred : Red (zd ts) n v := ⟨hv, fun u hu e => by
    have := hw.2 (u ++ a.map (sel s t)) (hu.app (hmapW a)) ((e.app (Eqv.rfl' _)).trans he)
    simp only [g0f, g1l, g0d, g0g] at this hl
    omega⟩
  have vnd : ∀ b, qs (zd ts) n v (sel s t b) := fun b u hu e => by
    apply g3f.mp
    intro hlt
    have e2 : Eqv (zd ts) n (u ++ (b :: a).map (sel s t)) (w' ++ [t]) := by
      have e3 : Eqv (zd ts) n ((u ++ [sel s t b]) ++ a.map (sel s t)) (((v ++ [sel s t b]) ++ [sel s t b]) ++ a.map (sel s t)) := (e.app (Eqv.rfl' _)).app (Eqv.rfl' _)
      have e4 : Eqv (zd ts) n (((v ++ [sel s t b]) ++ [sel s t b]) ++ a.map (sel s t)) (v ++ a.map (sel s t)) := (XC h2 (hsel b)).app (Eqv.rfl' _)
      have e5 := e3.trans (e4.trans he)
      have : (u ++ [sel s t b]) ++ a.map (sel s t) = u ++ (b :: a).map (sel s t) := by simp
      rwa [this] at e5
    have l1 := hw.2 (u ++ (b :: a).map (sel s t)) (hu.app (hmapW _)) e2
    simp only [g0f, g1l, g0d, g0g] at l1 hl
    have := hmin (u, b :: a) ⟨hu, e2, by simp only [g0f, g0d, g0g]; omega⟩
    simp only at this
    omega
  have shorter : ∀ u : List Nat, InW n u -> Eqv (zd ts) n (u ++ [s]) (w' ++ [t]) -> (w' ++ [t]).length <= u.length := fun u hu e => by
    apply hd u hu
    exact (XC h2 hs).symm.trans (e.app (Eqv.rfl' _))
  have a1 : ∀ x b y, a ≠ x ++ b :: b :: y := fun x b y e => by
    subst e
    have e1 : Eqv (zd ts) n (v ++ (x ++ y).map (sel s t)) (v ++ (x ++ b :: b :: y).map (sel s t)) := by
      refine (Eqv.rfl' v).app ?_
      rw [g1x, g1x]
      refine (Eqv.rfl' _).app ?_
      have := (Eqv.twice (n := n) h2 (hsel b)).symm.app (Eqv.rfl' (A := zd ts) (y.map (sel s t)))
      simpa using this
    have := hw.2 (v ++ (x ++ y).map (sel s t)) (hv.app (hmapW _)) (e1.trans he)
    simp only [g0f, g1l, g0d] at this hl
    omega
  have a2 : ∀ x, a ≠ x ++ [true] := fun x e => by
    subst e
    have := shorter (v ++ x.map (sel s t)) (hv.app (hmapW _)) (by simpa [sel] using he)
    simp only [g0f, g1l, g0d, g0g] at this hl
    omega
  have ha := VF a a1 a2
  obtain ⟨p1, p2⟩ := Yc ts hst
  have gt := vI hg (s : Int) (t : Int)
  have hpq : PQ (pqA (zd ts s t) (zd ts t s) a.length) /\ ((pqA (zd ts s t) (zd ts t s) a.length).2 = (0, 0) -> Eqv (zd ts) n (a.map (sel s t) ++ [s]) (s :: a.map (sel s t))) /\ ((pqA (zd ts s t) (zd ts t s) a.length).1 = (0, 0) -> Eqv (zd ts) n (a.map (sel s t) ++ [s]) (t :: a.map (sel s t))) := by
    rcases gt with g0 | gt
    · rw [g0] at p1 p2
      have q1 : zK 0 (decide (s < t)) = (-2, 0) := by cases decide (s < t) <;> rfl
      have q2 : zK 0 (!decide (s < t)) = (-2, 0) := by cases decide (s < t) <;> rfl
      rw [p1, p2, q1, q2]
      refine ⟨km _, fun e => ?_, fun e => ?_⟩
      · rw [jW] at e
        have hk0 : a.length = 0 := by
          split at e
          · have := congrArg Prod.fst e; simp only at this; omega
          · have := congrArg Prod.fst e; simp only at this; omega
        have : a = [] := List.length_eq_zero_iff.mp hk0
        rw [this]
        exact Eqv.rfl' _
      · rw [jW] at e
        exfalso
        split at e
        · have := congrArg Prod.fst e; simp only at this; omega
        · have := congrArg Prod.fst e; simp only at this; omega
    · obtain ⟨m, em⟩ : ∃ m : Nat, yQ ts s t = (m : Int) := ⟨(yQ ts s t).toNat, by omega⟩
      rw [em] at p1 p2 gt
      have hm : 2 <= m /\ m <= 6 := by omega
      have hkm : a.length < m := by
       apply Nat.not_le.mp
       intro hle
       obtain ⟨pre, epre⟩ := Za hle
       obtain ⟨b1, b2⟩ := kY (decide (s < t)) hm
       rw [<- p1, <- p2] at b1 b2
       have br := qL (n := n) hst (h2 s) (h2 t) hs ht b1 b2
       obtain ⟨y, ey, hy⟩ := VG (m - 1)
       have em1 : m - 1 + 1 = m := by omega
       rw [em1] at ey
       have ey2 : (alt m).map (!·) = y.map (!·) ++ [true] := by rw [ey]; simp
       rw [ey2, g1x] at br
       have e1 : Eqv (zd ts) n (v ++ (pre.map (sel s t) ++ ((y.map (!·)).map (sel s t) ++ [s]))) (w' ++ [t]) := by
         have e2 : a.map (sel s t) = pre.map (sel s t) ++ (alt m).map (sel s t) := by rw [ha, epre, g1x]
         rw [e2] at he
         refine Eqv.trans ?_ he
         refine (Eqv.rfl' v).app ((Eqv.rfl' _).app ?_)
         exact br.symm
       have := shorter (v ++ (pre.map (sel s t) ++ (y.map (!·)).map (sel s t))) (hv.app ((hmapW _).app (hmapW _))) (by simpa using e1)
       have el : a.length = pre.length + m := by
         have := congrArg g2u epre
         rw [g0f, x6, x6] at this
         exact this
       simp only [g0f, g1l, g0d, g0g] at this hl
       omega
      obtain ⟨w1, w2⟩ := JQ (decide (s < t)) hm hkm
      rw [p1, p2]
      refine ⟨Gj _ hm hkm, fun e => ?_, fun e => ?_⟩
      · obtain ⟨f1, f2⟩ := w1 e
        rw [<- p1, <- p2, <- ha] at f1 f2
        have := qL (n := n) hst (h2 s) (h2 t) hs ht f1 f2
        simpa [sel] using this
      · obtain ⟨f1, f2⟩ := w2 e
        rw [<- p1, <- p2, <- ha] at f1 f2
        have := qL (n := n) hst (h2 s) (h2 t) hs ht f1 f2
        simpa [sel] using this
  have le := Wu hst (h2 s) (h2 t) hs ht a.length
  rw [<- ha] at le
  have e := he (zX n s) (zg n s)
  rw [xc, le] at e
  have hlen : (rsc (pqA (zd ts s t) (zd ts t s) a.length).1 (zX n s)).length = (rsc (pqA (zd ts s t) (zd ts t s) a.length).2 (zX n t)).length := by rw [zF, zF, zg, zg]
  unfold UD at e
  rw [qH _ _ hlen (by rw [zF, zg]; exact hv), uf _ _ _ (by rw [zg]; exact hv), uf _ _ _ (by rw [zg]; exact hv)] at e
  refine ⟨v, t, _, by omega, ht, Ne.symm hst, vred, by have := vnd true; simpa [sel] using this, by have := vnd false; simpa [sel] using this, hpq.1, e.symm, a.map (sel s t), hmapW a, he, hpq.2.1, hpq.2.2⟩
theorem X5 {ts : List T3} (hg : yP ts) {n : Nat} : ∀ (k : Nat) (w : List Nat) (s : Nat), w.length = k -> s < n -> Red (zd ts) n w -> qs (zd ts) n w s -> NNr (zR (zd ts) w (zX n s)) := by
 intro k
 induction k using Nat.strongRecOn with
 | ind k ih =>
  intro w s hk hs hw hd
  by_cases hnil : w = []
  ·subst hnil
   intro j
   show nn ((zX n s).getD j (0, 0))
   by_cases hj : j < n
   ·rw [xA hj]
    split
    ·exact Xo 1 (by decide)
    ·exact .inl rfl
   ·left
    simp [g0l, g1e (show (zX n s).length <= j by rw [zg]; omega)]
  ·obtain ⟨v, t, x, hl, ht, _, vr, vs, vt, hx, e, _⟩ := UR hg w s hs hw hd hnil
   have ps := ih v.length (by omega) v s rfl hs vr vs
   have pt := ih v.length (by omega) v t rfl ht vr vt
   intro j
   rw [e, wK (by rw [zF, zF, zC, zC, zg, zg]), xB, xB]
   exact QD (QC hx.1 (ps j)) (QC hx.2.1 (pt j))
def NPr (r : List Gd) : Prop := ∀ k, nn (yM (r.getD k (0, 0)))
def Ul (s : Int) (r : List Gd) : Bool := r.any fun x => decide (Y5 x = s)
theorem Vr {s : Int} {r : List Gd} (h : Ul s r = true) : ∃ k, k < r.length /\ Y5 (r.getD k (0, 0)) = s := by
 unfold Ul at h
 rw [List.any_eq_true] at h
 obtain ⟨x, hx, e⟩ := h
 obtain ⟨k, hk, ek⟩ := List.getElem_of_mem hx
 refine ⟨k, hk, ?_⟩
 simp only [g0l, g0x hk, g3c, ek]
 simpa using e
theorem Wy {s : Int} {r : List Gd} {k : Nat} (hk : k < r.length) (h : Y5 (r.getD k (0, 0)) = s) : Ul s r = true := by
 unfold Ul
 rw [List.any_eq_true]
 refine ⟨r[k], List.getElem_mem hk, ?_⟩
 simp only [g0l, g0x hk, g3c] at h
 simpa using h
theorem NNr.no {r : List Gd} (h : NNr r) : Ul (-1) r = false := by
 apply Bool.eq_false_iff.mpr
 intro e
 obtain ⟨k, _, hk⟩ := Vr e
 exact Gb (h k) hk
theorem NPr.no {r : List Gd} (h : NPr r) : Ul 1 r = false := by
 apply Bool.eq_false_iff.mpr
 intro e
 obtain ⟨k, _, hk⟩ := Vr e
 exact BP (h k) hk
def Nz (r : List Gd) : Prop := ∃ k, k < r.length /\ r.getD k (0, 0) ≠ (0, 0)
theorem NNr.yes {r : List Gd} (h : NNr r) (hz : Nz r) : Ul 1 r = true := by
 obtain ⟨k, hk, e⟩ := hz
 refine Wy hk ?_
 rcases h k with c | c
 ·exact absurd c e
 ·exact M02.sgn_pos c
theorem NPr.yes {r : List Gd} (h : NPr r) (hz : Nz r) : Ul (-1) r = true := by
 obtain ⟨k, hk, e⟩ := hz
 refine Wy hk ?_
 rcases h k with c | c
 ·exact absurd (by have := congrArg yM c; rwa [Xw] at this) e
 ·have := M02.sgn_pos c
  simp only [yM] at this
  rw [M02.sgn_opp] at this
  unfold Y5
  omega
theorem NNr.notP {r : List Gd} (h : NNr r) (hz : Nz r) : ¬ NPr r := fun h' => by
 obtain ⟨k, _, e⟩ := hz
 exact e (HC (h k) (h' k))
section
variable {ts : List T3} {n : Nat}
theorem Yn {w : List Nat} {r : List Gd} (hw : InW r.length w) (hz : ∀ k, r.getD k (0, 0) = (0, 0)) : ∀ k, (zR (zd ts) w r).getD k (0, 0) = (0, 0) := by
 have e : r = rsc (0, 0) r := va (by rw [zF]) fun k _ => by rw [xB, hz]; rfl
 intro k
 rw [e, uf _ _ _ hw, xB]
 simp [yO]
theorem qG {w : List Nat} (hw : InW n w) {s : Nat} (hs : s < n) : Nz (zR (zd ts) w (zX n s)) := by
 apply Classical.byContradiction
 intro hc
 have hz : ∀ k, (zR (zd ts) w (zX n s)).getD k (0, 0) = (0, 0) := fun k => by
  by_cases hk : k < (zR (zd ts) w (zX n s)).length
  ·exact Classical.byContradiction fun e => hc ⟨k, hk, e⟩
  ·simp [g0l, g1e (g3f.mp hk)]
 have h1 := Yn (ts := ts) (w := w.reverse) (by rw [zC, zg]; exact hw.rev) hz s
 rw [kG (zW ts) w (zX n s) (fun i hi => by rw [zg]; exact hw i hi), xA hs, if_pos rfl] at h1
 cases h1
theorem QO {w : List Nat} {s : Nat} (hw : InW n w) (hs : s < n) (k : Nat) : (zR (zd ts) (w ++ [s]) (zX n s)).getD k (0, 0) = yM ((zR (zd ts) w (zX n s)).getD k (0, 0)) := by
 have e : vj (zd ts s) s (zX n s) = rsc (-1, 0) (zX n s) := by
  apply va (by rw [z6, zF])
  intro j hj
  rw [z6, zg] at hj
  rw [x8 _ (by rw [zg]; exact hs), xB, jV _ n s hs, zW, xA hs, xA hj]
  by_cases c : j = s
  ·simp [c, yE, yM, yO]
  ·simp [c, yO]
 rw [xc, xw]
 show (zR (zd ts) w (vj (zd ts s) s (zX n s))).getD k (0, 0) = _
 rw [e, uf _ _ _ (by rw [zg]; exact hw), xB]
 simp [yO, yM]
def Lth (ts : List T3) (n : Nat) (w : List Nat) (l : Nat) : Prop := ∃ u, Red (zd ts) n u /\ Eqv (zd ts) n u w /\ u.length = l
theorem Lth.ex {w : List Nat} (hw : InW n w) : ∃ l, Lth ts n w l := by
 obtain ⟨u, h1, h2⟩ := ZA (zd ts) n hw
 exact ⟨_, u, h1, h2, rfl⟩
theorem Lth.le {w u : List Nat} {l : Nat} (h : Lth ts n w l) (hu : InW n u) (e : Eqv (zd ts) n u w) : l <= u.length := by
 obtain ⟨v, h1, h2, rfl⟩ := h
 exact h1.2 u hu (e.trans h2.symm)
theorem Lth.cong {w w' : List Nat} {l : Nat} (h : Lth ts n w l) (e : Eqv (zd ts) n w w') : Lth ts n w' l := by
 obtain ⟨v, h1, h2, h3⟩ := h
 exact ⟨v, h1, h2.trans e, h3⟩
theorem Lth.uniq {w : List Nat} {l l' : Nat} (h : Lth ts n w l) (h' : Lth ts n w l') : l = l' := by
 obtain ⟨v, h1, h2, rfl⟩ := h
 obtain ⟨v', h1', h2', rfl⟩ := h'
 have a := h1.2 v' h1'.1 (h2'.trans h2.symm)
 have b := h1'.2 v h1.1 (h2.trans h2'.symm)
 omega
theorem Lth.nil : Lth ts n [] 0 := ⟨[], ⟨(fun i hi => by cases hi), fun u _ _ => g2e _⟩, Eqv.rfl' _, rfl⟩
theorem Lth.zero {w : List Nat} (h : Lth ts n w 0) : Eqv (zd ts) n w [] := by
 obtain ⟨v, h1, h2, h3⟩ := h
 have : v = [] := List.length_eq_zero_iff.mp h3
 subst this
 exact h2.symm
theorem Lth.rev {w : List Nat} {l : Nat} (hw : InW n w) (h : Lth ts n w l) : Lth ts n w.reverse l := by
 obtain ⟨l', h'⟩ := Lth.ex (ts := ts) hw.rev
 obtain ⟨u, u1, u2, u3⟩ := h
 obtain ⟨u', v1, v2, v3⟩ := h'
 have a : l' <= l := by
  have := v1.2 u.reverse u1.1.rev ((Eqv.rev (zW ts) u1.1 hw u2).trans v2.symm)
  rw [g1s] at this
  omega
 have b : l <= l' := by
  have e := Eqv.rev (zW ts) v1.1 hw.rev v2
  rw [g1z] at e
  have := u1.2 u'.reverse v1.1.rev (e.trans u2.symm)
  rw [g1s] at this
  omega
 have : l' = l := by omega
 subst this
 exact ⟨u', v1, v2, v3⟩
variable (hg : yP ts)
include hg
theorem wm {w : List Nat} (hw : InW n w) {s : Nat} (hs : s < n) {l : Nat} (hl : Lth ts n w l) :
  (NNr (zR (zd ts) w (zX n s)) /\ Lth ts n (w ++ [s]) (l + 1)) \/ (NPr (zR (zd ts) w (zX n s)) /\ 1 <= l /\ Lth ts n (w ++ [s]) (l - 1)) := by
 have h2 := zW ts
 obtain ⟨u, u1, u2, rfl⟩ := hl
 have eu := u2 (zX n s) (zg n s)
 obtain ⟨x, x1, x2⟩ := ZA (zd ts) n (u1.1.app (InW.one hs))
 have hx := x1.2 (u ++ [s]) (u1.1.app (InW.one hs)) x2.symm
 have xs : Eqv (zd ts) n (x ++ [s]) u := (x2.app (Eqv.rfl' _)).trans (XC h2 hs)
 have hux := u1.2 (x ++ [s]) (x1.1.app (InW.one hs)) xs
 rw [g0f, g1p] at hx hux
 have ex := x2 (zX n s) (zg n s)
 have neg : ∀ k, (zR (zd ts) x (zX n s)).getD k (0, 0) = yM ((zR (zd ts) u (zX n s)).getD k (0, 0)) := fun k => by rw [ex, QO u1.1 hs]
 have ew : Eqv (zd ts) n x (w ++ [s]) := x2.trans (u2.app (Eqv.rfl' _))
 have down : x.length <= u.length -> NPr (zR (zd ts) u (zX n s)) := fun h => by
  have nd : qs (zd ts) n x s := fun y hy e => by
   have := u1.2 y hy (e.trans xs)
   omega
  have := X5 hg x.length x s rfl hs x1 nd
  intro k
  rw [<- neg k]
  exact this k
 have up : u.length <= x.length -> NNr (zR (zd ts) u (zX n s)) := fun h => by
  have nd : qs (zd ts) n u s := fun y hy e => by
   have := x1.2 y hy (e.trans x2.symm)
   omega
  exact X5 hg u.length u s rfl hs u1 nd
 rw [<- eu]
 rcases Nat.lt_trichotomy x.length u.length with c | c | c
 ·right
  refine ⟨down (by omega), by omega, x, x1, ew, by omega⟩
 ·exact absurd (down (by omega)) ((up (by omega)).notP (qG u1.1 hs))
 ·left
  exact ⟨up (by omega), x, x1, ew, by omega⟩
theorem W5 {w : List Nat} (hw : InW n w) {s : Nat} (hs : s < n) : NNr (zR (zd ts) w (zX n s)) \/ NPr (zR (zd ts) w (zX n s)) := by
 obtain ⟨l, hl⟩ := Lth.ex (ts := ts) hw
 rcases wm hg hw hs hl with h | h
 ·exact .inl h.1
 ·exact .inr h.1
theorem US {w : List Nat} (hw : InW n w) {l : Nat} (hl : Lth ts n w l) (h : 1 <= l) : ∃ s, s < n /\ NPr (zR (zd ts) w (zX n s)) := by
 obtain ⟨u, u1, u2, rfl⟩ := hl
 have hne : u ≠ [] := fun e => by subst e; simp at h
 obtain ⟨v, t, rfl⟩ : ∃ v t, u = v ++ [t] := ⟨u.dropLast, u.getLast hne, (List.dropLast_concat_getLast hne).symm⟩
 have ht : t < n := u1.1 t (by simp)
 refine ⟨t, ht, ?_⟩
 rcases wm hg hw ht ⟨v ++ [t], u1, u2, rfl⟩ with ⟨_, h'⟩ | h'
 ·have e : Eqv (zd ts) n v (w ++ [t]) := (XC (zW ts) ht).symm.trans (u2.app (Eqv.rfl' _))
  have := h'.le u1.1.left e
  simp only [g0f, g1p] at this
  omega
 ·exact h'.1
end
def K6 (r : List Gd) : Bool := Ul 1 r && !Ul (-1) r
def YD (r : List Gd) : Bool := Ul (-1) r && !Ul 1 r
theorem NNr.abv {r : List Gd} (h : NNr r) (hz : Nz r) : K6 r = true /\ YD r = false := by simp [K6, YD, h.no, h.yes hz]
theorem NPr.blw {r : List Gd} (h : NPr r) (hz : Nz r) : K6 r = false /\ YD r = true := by simp [K6, YD, h.no, h.yes hz]
def wG (ts : List T3) (n : Nat) : List Nat -> List Nat -> List Bool
 | _, [] => []
 | pre, s :: w => K6 (zR (zd ts) pre (zX n s)) :: wG ts n (pre ++ [s]) w
def UQ : List Bool -> Int
 | [] => 0
 | b :: l => (if b = true then 1 else -1) + UQ l
theorem qy (ts : List T3) (n : Nat) : ∀ (w pre : List Nat), (wG ts n pre w).length = w.length
 | [], _ => rfl
 | s :: w, pre => by rw [wG, g0d, qy ts n w, g0d]
theorem UP : ∀ l : List Bool, UQ l <= l.length /\ (UQ l = l.length ↔ l.all id = true) /\ (UQ l - l.length) % 2 = 0
 | [] => by simp [UQ]
 | b :: l => by
  obtain ⟨h1, h2, h3⟩ := UP l
  cases b
  ·simp only [UQ, g0k, if_false, g0d, List.all_cons, id, Bool.false_and, iff_false]
   refine ⟨by omega, by omega, by omega⟩
  ·simp only [UQ, if_true, g0d, List.all_cons, id, Bool.true_and]
   refine ⟨by omega, ?_, by omega⟩
   rw [<- h2]
   omega
theorem Wb {ts : List T3} {n : Nat} (hg : yP ts) : ∀ (w pre : List Nat) {l l' : Nat}, InW n pre -> InW n w -> Lth ts n pre l -> Lth ts n (pre ++ w) l' -> (l' : Int) = l + UQ (wG ts n pre w)
 | [], pre, l, l', hp, hw, h1, h2 => by
  rw [g0t] at h2
  have := h1.uniq h2
  simp [wG, UQ, this]
 | s :: w, pre, l, l', hp, hw, h1, h2 => by
  have hs : s < n := hw s g0s
  have hw' : InW n w := fun i hi => hw i (g0n _ hi)
  have h2' : Lth ts n ((pre ++ [s]) ++ w) l' := by simpa using h2
  have nz := qG (ts := ts) hp hs
  rw [wG, UQ]
  rcases wm hg hp hs h1 with ⟨a, b⟩ | ⟨a, b, c⟩
  ·have ih := Wb hg w (pre ++ [s]) (hp.app (InW.one hs)) hw' b h2'
   rw [(a.abv nz).1, if_pos rfl]
   omega
  ·have ih := Wb hg w (pre ++ [s]) (hp.app (InW.one hs)) hw' c h2'
   rw [(a.blw nz).1]
   simp only [g0k, if_false]
   omega
theorem JR {ts : List T3} {n : Nat} (hg : yP ts) {w : List Nat} (hw : InW n w) {l : Nat} (h : Lth ts n w l) : UQ (wG ts n [] w) = l := by
 have := Wb hg w [] (fun i hi => by cases hi) hw Lth.nil (by rw [g0p]; exact h)
 omega
section
variable (ts : List T3) (n : Nat)
def vx (u : List Nat) : Option Nat := (g1f n).find? fun i => YD (zR (zd ts) u (zX n i))
inductive Lst : List Nat -> List Nat -> Prop
 | nil {u : List Nat} (h : vx ts n u = none) : Lst u []
 | cons {u v : List Nat} {i : Nat} (h : vx ts n u = some i) (t : Lst (u ++ [i]) v) : Lst u (i :: v)
end
variable {ts : List T3} {n : Nat}
theorem kM {u u' : List Nat} (e : Eqv (zd ts) n u u') : vx ts n u = vx ts n u' := by
 unfold vx
 congr 1
 funext i
 rw [e (zX n i) (zg n i)]
theorem Lst.cong {u v : List Nat} (h : Lst ts n u v) : ∀ {u' : List Nat}, Eqv (zd ts) n u u' -> Lst ts n u' v := by
 induction h with
 | nil h => intro u' e; exact .nil (by rw [<- kM e]; exact h)
 | cons h t ih => intro u' e; exact .cons (by rw [<- kM e]; exact h) (ih (e.app (Eqv.rfl' _)))
theorem Lst.uniq {u v : List Nat} (h : Lst ts n u v) : ∀ {v' : List Nat}, Lst ts n u v' -> v = v' := by
 induction h with
 | nil h =>
  intro v' h'
  cases h' with
  | nil _ => rfl
  | cons h' _ => rw [h] at h'; cases h'
 | cons h t ih =>
  intro v' h'
  cases h' with
  | nil h' => rw [h] at h'; cases h'
  | cons h' t' =>
   rw [h] at h'
   cases h'
   rw [ih t']
theorem qm {u : List Nat} {i : Nat} (h : vx ts n u = some i) : i < n /\ YD (zR (zd ts) u (zX n i)) = true /\ ∀ j, j < i -> YD (zR (zd ts) u (zX n j)) = false := by
 unfold vx at h
 have h1 := List.mem_of_find?_eq_some h
 have h2 := List.find?_some h
 refine ⟨List.mem_range.mp h1, h2, fun j hj => ?_⟩
 rw [List.find?_range_eq_some] at h
 have := h.2.2 j hj
 simpa using this
theorem WA {u : List Nat} (h : vx ts n u = none) {i : Nat} (hi : i < n) : YD (zR (zd ts) u (zX n i)) = false := by
 unfold vx at h
 rw [g3h] at h
 have := h i (List.mem_range.mpr hi)
 simpa using this
theorem Jd {u : List Nat} {i : Nat} (hi : i < n) (h : YD (zR (zd ts) u (zX n i)) = true) : ∃ j, vx ts n u = some j := by
 cases e : vx ts n u with
 | some j => exact ⟨j, rfl⟩
 | none => rw [WA e hi] at h; cases h
theorem Gx (hg : yP ts) : ∀ (l : Nat) {u : List Nat}, InW n u -> Lth ts n u l -> ∃ v, Lst ts n u v /\ v.length = l /\ InW n v /\ Eqv (zd ts) n (u ++ v) []
 | 0, u, hu, hl => by
  refine ⟨[], .nil ?_, rfl, (fun i hi => by cases hi), by rw [g0t]; exact hl.zero⟩
  unfold vx
  rw [g3h]
  intro i hi
  have hi' := List.mem_range.mp hi
  rcases wm hg hu hi' hl with ⟨a, _⟩ | ⟨_, b, _⟩
  ·rw [(a.abv (qG hu hi')).2]; decide
  ·omega
 | l + 1, u, hu, hl => by
  obtain ⟨s, hs, hp⟩ := US hg hu hl (by omega)
  obtain ⟨i, hi⟩ := Jd hs (hp.blw (qG hu hs)).2
  obtain ⟨h1, h2, _⟩ := qm hi
  have hL : Lth ts n (u ++ [i]) l := by
   rcases wm hg hu h1 hl with ⟨a, _⟩ | ⟨_, _, c⟩
   ·rw [(a.abv (qG hu h1)).2] at h2; cases h2
   ·exact c
  obtain ⟨v, v1, v2, v3, v4⟩ := Gx hg l (hu.app (InW.one h1)) hL
  refine ⟨i :: v, .cons hi v1, by rw [g0d, v2], v3.cons h1, ?_⟩
  rw [g1g] at v4
  exact v4
theorem Yo (hg : yP ts) {w : List Nat} (hw : InW n w) : ∃ (v : List Nat) (l : Nat), Lst ts n w.reverse v /\ InW n v /\ Eqv (zd ts) n v w /\ Lth ts n v l /\ v.length = l /\ l <= w.length := by
 obtain ⟨l, hl⟩ := Lth.ex (ts := ts) hw
 obtain ⟨v, v1, v2, v3, v4⟩ := Gx hg l hw.rev (hl.rev hw)
 have e : Eqv (zd ts) n v w := by
  have a1 : Eqv (zd ts) n (w ++ (w.reverse ++ v)) (w ++ []) := (Eqv.rfl' _).app v4
  have a2 : Eqv (zd ts) n ((w ++ w.reverse) ++ v) ([] ++ v) := (kN (zW ts) hw).app (Eqv.rfl' _)
  rw [g0t] at a1
  rw [g1g, g0p] at a2
  exact a2.symm.trans a1
 exact ⟨v, l, v1, v3, e, hl.cong e.symm, v2, hl.le hw (Eqv.rfl' _)⟩
end GH
namespace GH
theorem VX {n i k : Nat} (c : Gd) (hk : k < n) : (rsc c (zX n i)).getD k (0, 0) = if k = i then c else (0, 0) := by
 rw [xB, xA hk]
 split
 ·exact jZ c
 ·exact qJ c
section
variable {ts : List T3} {n : Nat}
def Sh (ts : List T3) (n : Nat) (w : List Nat) : Prop := InW n w /\ Lth ts n w w.length
theorem Sh.cut {a b c : List Nat} (h : Sh ts n (a ++ b ++ c)) : Sh ts n b := by
 obtain ⟨h1, h2⟩ := h
 have hb : InW n b := h1.left.right
 obtain ⟨l, hl⟩ := Lth.ex (ts := ts) hb
 refine ⟨hb, ?_⟩
 have hl' := hl
 obtain ⟨v, v1, v2, v3⟩ := hl'
 have e : Eqv (zd ts) n (a ++ v ++ c) (a ++ b ++ c) := ((Eqv.rfl' _).app v2).app (Eqv.rfl' _)
 have := h2.le ((h1.left.left.app v1.1).app h1.right) e
 simp only [g0f] at this
 have h3 := hl.le hb (Eqv.rfl' _)
 have : l = b.length := by omega
 rw [<- this]
 exact hl
theorem Sh.rev {a : List Nat} (h : Sh ts n a) : Sh ts n a.reverse := ⟨h.1.rev, by rw [g1s]; exact h.2.rev h.1⟩
theorem Sh.up (hg : yP ts) {u : List Nat} {s : Nat} (h : Sh ts n (u ++ [s])) : NNr (zR (zd ts) u (zX n s)) := by
 have hs : s < n := h.1 s (by simp)
 have hu : Sh ts n u := Sh.cut (a := []) (c := [s]) (by simpa using h)
 rcases wm hg hu.1 hs hu.2 with ⟨a, _⟩ | ⟨_, b, c⟩
 ·exact a
 ·have := c.uniq h.2
  simp only [g0f, g1p] at this
  omega
end
section
variable {ts : List T3} {n : Nat}
end
section
variable {ts : List T3} {n : Nat}
def uy (n m : Nat) (r : List Gd) : List Gd := (g1f n).map fun k => if k < m then r.getD k (0, 0) else (0, 0)
theorem zZ (n m : Nat) (r : List Gd) : (uy n m r).length = n := by simp [uy]
theorem uF {n m : Nat} (r : List Gd) {k : Nat} (hk : k < n) : (uy n m r).getD k (0, 0) = if k < m then r.getD k (0, 0) else (0, 0) := by
 simp [uy, g0l, hk]
theorem ZE {n m : Nat} (hm : m < n) (r : List Gd) : uy n (m + 1) r = Yb (uy n m r) (rsc (r.getD m (0, 0)) (zX n m)) := by
 have hl : (uy n m r).length = (rsc (r.getD m (0, 0)) (zX n m)).length := by rw [zF, zg, zZ]
 apply va (by rw [xC hl, zZ, zZ])
 intro k hk
 rw [zZ] at hk
 rw [wK hl, uF r hk, uF r hk, VX _ hk]
 by_cases c : k = m
 ·subst c
  simp [yE]
 ·by_cases c2 : k < m
  ·rw [if_pos (by omega), if_pos c2, if_neg c, xQ]
  ·rw [if_neg (by omega), if_neg c2, if_neg c, xQ]
theorem Xe {n : Nat} {r : List Gd} (h : r.length = n) : uy n n r = r := by
 apply va (by rw [zZ, h])
 intro k hk
 rw [zZ] at hk
 rw [uF r hk, if_pos hk]
theorem Q7 (x y : Gd) : yM (yO x y) = yO (yM x) y := by
 simp only [yM, yO, Prod.mk.injEq]; constructor <;> grind
theorem Wr : nn (0, 0) := .inl rfl
theorem CN {u : List Nat} (hu : InW n u) {r : List Gd} (hr : r.length = n) (hp : NPr r) (h : ∀ k, k < n -> r.getD k (0, 0) = (0, 0) \/ NNr (zR (zd ts) u (zX n k))) : NPr (zR (zd ts) u r) := by
 have main : ∀ m, m <= n -> NPr (zR (zd ts) u (uy n m r)) := by
  intro m
  induction m with
  | zero =>
   intro _ k
   have := Yn (ts := ts) (w := u) (r := uy n 0 r) (by rw [zZ]; exact hu) (fun k => by
    by_cases hk : k < n
    ·rw [uF r hk, if_neg (by omega)]
    ·rw [g0l, g1e (by rw [zZ]; omega)]; rfl) k
   rw [this]
   exact .inl rfl
  | succ m ih =>
   intro hm k
   have hl : (uy n m r).length = (rsc (r.getD m (0, 0)) (zX n m)).length := by rw [zF, zg, zZ]
   rw [ZE (by omega) r, qH _ _ hl (by rw [zZ]; exact hu), uf _ _ _ (by rw [zg]; exact hu), wK (by rw [zC, zF, zC, zg, zZ]), xB, Q8]
   refine QD (ih (by omega) k) ?_
   rw [Q7]
   rcases h m (by omega) with z | z
   ·rw [z]
    have : yO (yM (0, 0)) ((zR (zd ts) u (zX n m)).getD k (0, 0)) = (0, 0) := by simp [yM, yO]
    rw [this]
    exact .inl rfl
   ·exact QC (hp m) (z k)
 have := main n (g0o _)
 rwa [Xe hr] at this
theorem CO {u : List Nat} (hu : InW n u) {r : List Gd} (hr : r.length = n) (hp : NNr r) (h : ∀ k, k < n -> r.getD k (0, 0) = (0, 0) \/ NNr (zR (zd ts) u (zX n k))) : NNr (zR (zd ts) u r) := by
 have hneg : ∀ k, (rsc (-1, 0) r).getD k (0, 0) = yM (r.getD k (0, 0)) := fun k => by
  rw [xB]; simp [yO, yM]
 have h1 : NPr (zR (zd ts) u (rsc (-1, 0) r)) := CN hu (by rw [zF, hr]) (fun k => by
  rw [hneg]
  have : yM (yM (r.getD k (0, 0))) = r.getD k (0, 0) := by simp [yM]
  rw [this]
  exact hp k) fun k hk => by
   rcases h k hk with z | z
   ·left
    rw [hneg, z]
    rfl
   ·exact .inr z
 rw [uf _ _ _ (by rw [hr]; exact hu)] at h1
 intro k
 have := h1 k
 rw [xB] at this
 have e : yM (yO (-1, 0) ((zR (zd ts) u r).getD k (0, 0))) = (zR (zd ts) u r).getD k (0, 0) := by simp [yO, yM]
 rwa [e] at this
theorem QN {k : Nat} : ∀ {w : List Nat} {r : List Gd}, InW r.length w -> k ∉ w -> (zR (zd ts) w r).getD k (0, 0) = r.getD k (0, 0)
 | [], r, _, _ => rfl
 | i :: w, r, hw, hk => by
  have hw' : InW r.length w := fun j hj => hw j (g0n _ hj)
  have hi : i < r.length := hw i g0s
  rw [xw, x8 _ (by rw [zC]; exact hi), if_neg (fun c => hk (by rw [c]; exact g0s))]
  exact QN hw' fun c => hk (g0n _ c)
theorem Wp {w : List Nat} (hw : InW n w) {i : Nat} (hi : i < n) (h : i ∉ w) : YD (zR (zd ts) w (zX n i)) = false := by
 have e := QN (ts := ts) (w := w) (r := zX n i) (by rw [zg]; exact hw) h
 rw [xA hi, if_pos rfl] at e
 have : Ul 1 (zR (zd ts) w (zX n i)) = true := Wy (k := i) (by rw [zC, zg]; exact hi) (by rw [e]; decide)
 simp [YD, this]
theorem Lst.sub {P : Nat -> Prop} {u v : List Nat} (h : Lst ts n u v) : InW n u -> (∀ i ∈ u, P i) -> ∀ i ∈ v, P i := by
 induction h with
 | nil _ => intro _ _ i hi; cases hi
 | @cons u v i h t ih =>
  intro hu hp j hj
  obtain ⟨hi, hb, _⟩ := qm h
  have hm : i ∈ u := by
   apply Classical.byContradiction
   intro c
   rw [Wp hu hi c] at hb
   cases hb
  rcases g0m.mp hj with rfl | hj
  ·exact hp _ hm
  ·refine ih (hu.app (InW.one hi)) (fun k hk => ?_) j hj
   rcases g1h.mp hk with hk | hk
   ·exact hp k hk
   ·rw [List.mem_singleton.mp hk]; exact hp _ hm
def Up (ts : List T3) (n : Nat) (part u : List Nat) : List Nat := part.filter fun i => YD (zR (zd ts) u (zX n i))
inductive Rm (ts : List T3) (n : Nat) (part : List Nat) : List Nat -> List Nat -> Prop
 | nil {u : List Nat} (h : Up ts n part u = []) : Rm ts n part u []
 | cons {u s : List Nat} {i : Nat} {r : List Nat} (h : Up ts n part u = i :: r) (t : Rm ts n part (u ++ [i]) s) : Rm ts n part u (i :: s)
theorem XB {part u : List Nat} {i : Nat} : i ∈ Up ts n part u ↔ i ∈ part /\ YD (zR (zd ts) u (zX n i)) = true := by
 simp [Up]
variable (hg : yP ts)
include hg
theorem Dh {w : List Nat} (hw : InW n w) {s : Nat} (hs : s < n) (h : YD (zR (zd ts) w (zX n s)) = true) : NPr (zR (zd ts) w (zX n s)) := by
 rcases W5 hg hw hs with c | c
 ·rw [(c.abv (qG hw hs)).2] at h; cases h
 ·exact c
theorem HF {w : List Nat} (hw : InW n w) {s : Nat} (hs : s < n) (h : YD (zR (zd ts) w (zX n s)) = false) : NNr (zR (zd ts) w (zX n s)) := by
 rcases W5 hg hw hs with c | c
 ·exact c
 ·rw [(c.blw (qG hw hs)).2] at h; cases h
theorem Cf {part : List Nat} (hp : InW n part) : ∀ (l : Nat) {u : List Nat}, InW n u -> Lth ts n u l -> ∃ s k, Rm ts n part u s /\ s.length + k = l /\ (∀ i ∈ s, i ∈ part) /\ Lth ts n (u ++ s) k /\ ∀ i ∈ part, NNr (zR (zd ts) (u ++ s) (zX n i))
 | l, u, hu, hl => by
  cases e : Up ts n part u with
  | nil =>
   refine ⟨[], l, .nil e, by simp, (fun i hi => by cases hi), by rw [g0t]; exact hl, fun i hi => ?_⟩
   rw [g0t]
   refine HF hg hu (hp i hi) ?_
   cases c : YD (zR (zd ts) u (zX n i)) with
   | false => rfl
   | true =>
    have := XB.mpr ⟨hi, c⟩
    rw [e] at this
    cases this
  | cons i r =>
   have hm : i ∈ Up ts n part u := by rw [e]; exact g0s
   obtain ⟨h1, h2⟩ := XB.mp hm
   have hi := hp i h1
   have hn := Dh hg hu hi h2
   rcases wm hg hu hi hl with ⟨c, _⟩ | ⟨_, c2, c3⟩
   ·exact absurd hn (c.notP (qG hu hi))
   ·have hlt : l - 1 < l := by omega
    obtain ⟨s, k, a1, a2, a3, a4, a5⟩ := Cf hp (l - 1) (hu.app (InW.one hi)) c3
    refine ⟨i :: s, k, .cons e a1, by rw [g0d]; omega, fun j hj => ?_, ?_, ?_⟩
    ·rcases g0m.mp hj with rfl | hj
     ·exact h1
     ·exact a3 j hj
    ·rwa [g1g, g2w] at a4
    ·rwa [g1g, g2w] at a5
theorem G6 {part : List Nat} (hp : InW n part) {w : List Nat} (hw : InW n w) : ∃ s o i, Rm ts n part w s /\ s.length <= w.length /\ (∀ x ∈ s, x ∈ part) /\ Lst ts n (w ++ s).reverse o /\ Lst ts n s.reverse.reverse i /\ InW n o /\ InW n i /\ (∀ x ∈ i, x ∈ part) ∧
  Eqv (zd ts) n (o ++ i) w /\ Lth ts n (o ++ i) (o ++ i).length /\ (∀ x ∈ part, NNr (zR (zd ts) o (zX n x))) /\ (o ++ i).length <= w.length /\ Eqv (zd ts) n o (w ++ s) /\ Eqv (zd ts) n i s.reverse /\ (∀ x ∈ part, NNr (zR (zd ts) (w ++ s) (zX n x))) := by
 have h2 := zW ts
 obtain ⟨l, hl⟩ := Lth.ex (ts := ts) hw
 obtain ⟨s, k, a1, a2, a3, a4, a5⟩ := Cf hg hp l hw hl
 have hs : InW n s := fun x hx => hp x (a3 x hx)
 obtain ⟨o, lo, o1, o2, o3, o4, o5, o6⟩ := Yo hg (hw.app hs)
 obtain ⟨i, li, i1, i2, i3, i4, i5, i6⟩ := Yo hg hs.rev
 have e : Eqv (zd ts) n (o ++ i) w := by
  have := o3.app i3
  rw [g1g] at this
  exact this.trans (((Eqv.rfl' w).app (kN h2 hs)).trans (by rw [g0t]; exact Eqv.rfl' _))
 have hlw := hl.le hw (Eqv.rfl' _)
 have hlo : lo = k := (o4.cong o3).uniq a4
 have hle := hl.le (o2.app i2) e
 rw [g0f] at hle
 rw [g1s] at i6
 have hi : ∀ x ∈ i, x ∈ part := i1.sub (by rw [g1z]; exact hs) (by rw [g1z]; exact a3)
 refine ⟨s, o, i, a1, by omega, a3, o1, i1, o2, i2, hi, e, ?_, fun x hx => ?_, by rw [g0f]; omega, o3, i3, a5⟩
 ·have : (o ++ i).length = l := by rw [g0f]; omega
  rw [this]
  exact hl.cong e.symm
 ·rw [o3 _ (zg n x)]
  exact a5 x hx
end
section
variable {ts : List T3} {n : Nat}
theorem Uq {u v : List Nat} (hu : InW n u) (hv : InW n v) (h : ∀ k, k < n -> zR (zd ts) u (zX n k) = zR (zd ts) v (zX n k)) : Eqv (zd ts) n u v := fun r hr => by
 have main : ∀ m, m <= n -> zR (zd ts) u (uy n m r) = zR (zd ts) v (uy n m r) := by
  intro m
  induction m with
  | zero =>
   intro _
   have z : ∀ w : List Nat, InW n w -> ∀ k, (zR (zd ts) w (uy n 0 r)).getD k (0, 0) = (0, 0) := fun w hw k => Yn (ts := ts) (w := w) (r := uy n 0 r) (by rw [zZ]; exact hw) (fun k => by
    by_cases hk : k < n
    ·rw [uF r hk, if_neg (by omega)]
    ·rw [g0l, g1e (by rw [zZ]; omega)]; rfl) k
   apply va (by rw [zC, zC])
   intro k _
   rw [z u hu k, z v hv k]
  | succ m ih =>
   intro hm
   have hl : (uy n m r).length = (rsc (r.getD m (0, 0)) (zX n m)).length := by rw [zF, zg, zZ]
   have st : ∀ w : List Nat, InW n w -> zR (zd ts) w (uy n (m + 1) r) = Yb (zR (zd ts) w (uy n m r)) (rsc (r.getD m (0, 0)) (zR (zd ts) w (zX n m))) := fun w hw => by
    rw [ZE (by omega) r, qH _ _ hl (by rw [zZ]; exact hw), uf _ _ _ (by rw [zg]; exact hw)]
   rw [st u hu, st v hv, ih (by omega), h m (by omega)]
 have := main n (g0o _)
 rwa [Xe hr] at this
end
section
variable {ts : List T3} {n : Nat}
variable (hg : yP ts)
include hg
theorem HA {u : List Nat} (hu : InW n u) {s : Nat} (hs : s < n) (h : NNr (zR (zd ts) u (zX n s))) : NPr (zR (zd ts) (u ++ [s]) (zX n s)) := fun k => by
 rw [QO hu hs k]
 have : yM (yM ((zR (zd ts) u (zX n s)).getD k (0, 0))) = (zR (zd ts) u (zX n s)).getD k (0, 0) := by simp [yM]
 rw [this]
 exact h k
theorem HB {u v : List Nat} (e : Eqv (zd ts) n u v) {s : Nat} (h : NPr (zR (zd ts) u (zX n s))) : NPr (zR (zd ts) v (zX n s)) := by
 rw [<- e _ (zg n s)]; exact h
end
theorem JU (s t : Nat) (b : Bool) : sel t s b = sel s t (!b) := by cases b <;> rfl
theorem Yl (s t : Nat) (l : List Bool) : l.map (sel t s) = (l.map (!·)).map (sel s t) := by
 rw [g1o]
 apply g2l
 intro b _
 exact JU s t b
section
variable {ts : List T3} {n : Nat}
theorem By {s t : Nat} (hs : s < n) (ht : t < n) (l : List Bool) : InW n (l.map (sel s t)) := fun i hi => by
 obtain ⟨b, _, rfl⟩ := g2q.mp hi
 cases b <;> simp [sel] <;> assumption
theorem Vg {s t : Nat} (hs : s < n) (ht : t < n) (x y : List Bool) (b : Bool) : Eqv (zd ts) n ((x ++ y).map (sel s t)) ((x ++ b :: b :: y).map (sel s t)) := by
 rw [g1x, g1x]
 refine (Eqv.rfl' _).app ?_
 have hb : sel s t b < n := By hs ht [b] _ (by simp)
 have := (Eqv.twice (n := n) (zW ts) hb).symm.app (Eqv.rfl' (A := zd ts) (y.map (sel s t)))
 simpa using this
theorem Bo {s t : Nat} (hst : s ≠ t) (hs : s < n) (ht : t < n) {m : Nat} (em : yQ ts s t = (m : Int)) (hm : 2 <= m /\ m <= 6) : Eqv (zd ts) n ((alt m).map (sel s t)) ((alt m).map (sel t s)) := by
 have h2 := zW ts
 obtain ⟨p1, p2⟩ := Yc ts hst
 rw [em] at p1 p2
 obtain ⟨b1, b2⟩ := kY (decide (s < t)) hm
 rw [<- p1, <- p2] at b1 b2
 rw [Yl s t]
 exact qL (n := n) hst (h2 s) (h2 t) hs ht b1 b2
theorem Dj {s t : Nat} (hst : s ≠ t) (hs : s < n) (ht : t < n) {m k : Nat} (em : yQ ts s t = (m : Int)) (hm : 2 <= m /\ m <= 6) (h : Sh ts n ((alt k).map (sel s t))) : k <= m := by
 apply g3f.mp
 intro hlt
 obtain ⟨pre, e⟩ := Za (m := m + 1) (k := k) (by omega)
 obtain ⟨j, rfl⟩ : ∃ j, m = j + 1 := ⟨m - 1, by omega⟩
 have e1 : (alt (j + 1)).map (!·) = decide ((j + 1) % 2 = 1) :: (alt j).map (!·) := by
  rw [alt, g0j]
  congr 1
  by_cases c : j % 2 = 1
  ·have c2 : ¬ ((j + 1) % 2 = 1) := by omega
   simp [c, c2]
  ·have c2 : (j + 1) % 2 = 1 := by omega
   simp [c, c2]
 have br := Bo (ts := ts) (n := n) hst hs ht em hm
 rw [Yl s t, e1] at br
 have e2 : Eqv (zd ts) n ((pre ++ (alt j).map (!·)).map (sel s t)) ((alt k).map (sel s t)) := by
  rw [e, alt]
  refine (Vg hs ht pre ((alt j).map (!·)) (decide ((j + 1) % 2 = 1))).trans ?_
  rw [g1x, g1x, g0j, g0j (l := alt (j + 1))]
  refine (Eqv.rfl' _).app ?_
  exact (Eqv.rfl' [sel s t (decide ((j + 1) % 2 = 1))]).app br.symm
 have := h.2.le (By hs ht _) e2
 have hk := congrArg g2u e
 rw [g0f, x6, x6] at hk
 simp only [g1l, g0f, x6] at this
 omega
variable (hg : yP ts)
include hg
theorem Bq {s t : Nat} (hst : s ≠ t) (hs : s < n) (ht : t < n) {o : List Nat} {k : Nat} (h : Sh ts n (o ++ (alt k).map (sel s t))) (h1 : NNr (zR (zd ts) o (zX n s))) (h2 : NNr (zR (zd ts) o (zX n t))) (hd : NPr (zR (zd ts) (o ++ (alt k).map (sel s t)) (zX n s))) : ∃ m : Nat, yQ ts s t = (m : Int) /\ (2 <= m /\ m <= 6) /\ k = m := by
 have hp2 := zW ts
 have ho : InW n o := h.1.left
 have hsi : Sh ts n ((alt k).map (sel s t)) := Sh.cut (a := o) (b := (alt k).map (sel s t)) (c := []) (by simpa using h)
 obtain ⟨p1, p2⟩ := Yc ts hst
 have no : ¬ PQ (pqA (zd ts s t) (zd ts t s) k) := fun hpq => by
  have le := Wu hst (hp2 s) (hp2 t) hs ht k
  have hnn : NNr (zR (zd ts) (o ++ (alt k).map (sel s t)) (zX n s)) := by
   rw [xc, le]
   refine CO ho (yC _ _ _ _ _) (fun j => ?_) fun j hj => ?_
   ·by_cases hj : j < n
    ·rw [wM _ _ hj]
     refine QD ?_ ?_
     ·split
      ·exact hpq.1
      ·exact Wr
     ·split
      ·exact hpq.2.1
      ·exact Wr
    ·rw [g0l, g1e (by rw [yC]; omega)]
     exact Wr
   ·by_cases c1 : j = s
    ·subst c1; exact .inr h1
    ·by_cases c2 : j = t
     ·subst c2; exact .inr h2
     ·left
      rw [wM _ _ hj, if_neg c1, if_neg c2, xQ]
  exact hnn.notP (qG h.1 hs) hd
 rcases vI hg (s : Int) (t : Int) with g0 | gt
 ·rw [g0] at p1 p2
  have q1 : zK 0 (decide (s < t)) = (-2, 0) := by cases decide (s < t) <;> rfl
  have q2 : zK 0 (!decide (s < t)) = (-2, 0) := by cases decide (s < t) <;> rfl
  rw [p1, p2, q1, q2] at no
  exact absurd (km k) no
 ·obtain ⟨m, em⟩ : ∃ m : Nat, yQ ts s t = (m : Int) := ⟨(yQ ts s t).toNat, by omega⟩
  rw [em] at p1 p2 gt
  have hm : 2 <= m /\ m <= 6 := by omega
  refine ⟨m, em, hm, Nat.le_antisymm (Dj hst hs ht em hm hsi) (g3f.mp fun hlt => ?_)⟩
  rw [p1, p2] at no
  exact no (Gj _ hm hlt)
theorem JM {v : List Nat} (hv : Sh ts n v) {s t : Nat} (hst : s ≠ t) (hs : s < n) (ht : t < n) (d1 : NPr (zR (zd ts) v (zX n s))) (d2 : NPr (zR (zd ts) v (zX n t))) :
  ∃ (c : List Nat) (m : Nat), yQ ts s t = (m : Int) /\ (2 <= m /\ m <= 6) /\ InW n c /\ Sh ts n (c ++ (alt m).map (sel s t)) /\ Eqv (zd ts) n (c ++ (alt m).map (sel s t)) v /\ Sh ts n (c ++ (alt m).map (sel t s)) /\ Eqv (zd ts) n (c ++ (alt m).map (sel t s)) v := by
 have hp2 := zW ts
 obtain ⟨_, o, i, _, _, _, _, _, r6, r7, r8, r9, r10, r11, _, _, _, _⟩ := G6 hg (part := [s, t]) (fun x hx => by
  have : x = s \/ x = t := by simpa using hx
  rcases this with rfl | rfl <;> assumption) hv.1
 have os := r11 s (by simp)
 have ot := r11 t (by simp)
 have hsh : Sh ts n (o ++ i) := ⟨r6.app r7, r10⟩
 have hi : Sh ts n i := Sh.cut (a := o) (b := i) (c := []) (by simpa using hsh)
 obtain ⟨a, ha⟩ : ∃ a : List Bool, i = a.map (sel s t) := ⟨i.map fun x => decide (x = s), by
  rw [g1o]
  have : i.map (sel s t ∘ fun x => decide (x = s)) = i.map id := by
   apply g2l
   intro x hx
   have : x = s \/ x = t := by simpa using r8 x hx
   rcases this with rfl | rfl
   ·simp [sel]
   ·simp [sel, Ne.symm hst]
  rw [this, List.map_id]⟩
 subst ha
 have a1 : ∀ x b y, a ≠ x ++ b :: b :: y := fun x b y e => by
  have := hi.2.le (By hs ht (x ++ y)) (by rw [e]; exact Vg hs ht x y b)
  rw [e] at this
  simp only [g1l, g0f, g0d] at this
  omega
 have fin : ∀ {s t : Nat}, s ≠ t -> s < n -> t < n -> NPr (zR (zd ts) v (zX n s)) -> NNr (zR (zd ts) o (zX n s)) -> NNr (zR (zd ts) o (zX n t)) -> ∀ k, Sh ts n (o ++ (alt k).map (sel s t)) -> Eqv (zd ts) n (o ++ (alt k).map (sel s t)) v →
   ∃ m : Nat, yQ ts s t = (m : Int) /\ (2 <= m /\ m <= 6) /\ Sh ts n (o ++ (alt m).map (sel s t)) /\ Eqv (zd ts) n (o ++ (alt m).map (sel s t)) v /\ Sh ts n (o ++ (alt m).map (sel t s)) /\ Eqv (zd ts) n (o ++ (alt m).map (sel t s)) v := by
  intro s t hst hs ht d1 os ot k h1 h2
  obtain ⟨m, em, hm, rfl⟩ := Bq hg hst hs ht h1 os ot (by rw [h2 _ (zg n s)]; exact d1)
  have br := (Eqv.rfl' (A := zd ts) (n := n) o).app (Bo (ts := ts) (n := n) hst hs ht em hm)
  refine ⟨k, em, hm, h1, h2, ⟨r6.app (By ht hs _), ?_⟩, br.symm.trans h2⟩
  have l : (o ++ (alt k).map (sel t s)).length = (o ++ (alt k).map (sel s t)).length := by simp
  rw [l]
  exact h1.2.cong br
 by_cases c : ∃ x, a = x ++ [true]
 ·obtain ⟨x, hx⟩ := c
  have e : a.map (!·) = alt (a.map (!·)).length := VF _ (fun x b y e => by
   have e2 := congrArg (List.map (!·)) e
   rw [g1o] at e2
   have e3 : (a.map ((!·) ∘ (!·))) = a := by
    have : ((fun b : Bool => !b) ∘ fun b => !b) = id := by funext b; simp
    rw [this, List.map_id]
   rw [e3] at e2
   exact a1 (x.map (!·)) (!b) (y.map (!·)) (by simpa using e2)) (fun y e => by
   have e2 := congrArg List.getLast? e
   rw [hx] at e2
   simp at e2)
  have e4 : a.map (sel s t) = (alt (a.map (!·)).length).map (sel t s) := by
   rw [<- e, Yl t s, g1o]
  rw [e4] at hsh r9
  obtain ⟨m, em, hm, g1, g2, g3, g4⟩ := fin (Ne.symm hst) ht hs d2 ot os _ hsh r9
  exact ⟨o, m, by rw [qT]; exact em, hm, r6, g3, g4, g1, g2⟩
 ·have e := VF a a1 fun x e => c ⟨x, e⟩
  rw [e] at hsh r9
  obtain ⟨m, em, hm, g1, g2, g3, g4⟩ := fin hst hs ht d1 os ot _ hsh r9
  exact ⟨o, m, em, hm, r6, g1, g2, g3, g4⟩
theorem QS {a : List Nat} {s : Nat} (h : Sh ts n (a ++ [s])) : NPr (zR (zd ts) (a ++ [s]) (zX n s)) := HA hg h.1.left (h.1 s (by simp)) (Sh.up hg h)
end
def wc (i j m : Nat) : List Nat := (g1f m).map fun k => if k % 2 = 0 then i else j
theorem yD (i j m : Nat) : (wc i j m).length = m := by simp [wc]
theorem Jz (i j : Nat) {k m : Nat} (h : k <= m) : (wc i j m).take k = wc i j k := by
 unfold wc
 rw [<- List.map_take, List.take_range, g2p h]
theorem Jy : ∀ m, (alt m).reverse = (g1f m).map fun k => decide (k % 2 = 1)
 | 0 => rfl
 | m + 1 => by
  rw [alt, g2f, Jy m, List.range_succ, g1x]
  rfl
theorem YI (s t m : Nat) : ((alt m).map (sel s t)).reverse = wc t s m := by
 rw [<- List.map_reverse, Jy, g1o]
 unfold wc
 apply g2l
 intro k _
 simp only [Function.comp, sel]
 by_cases c : k % 2 = 1
 ·have : ¬ (k % 2 = 0) := by omega
  simp [c]
 ·have c2 : k % 2 = 0 := by omega
  simp [c2]
section
variable {ts : List T3} {n : Nat}
def Dn (ts : List T3) (n : Nat) (s : List Nat) (t : Nat) : Prop := ∃ r, InW n r /\ Eqv (zd ts) n (t :: r) s /\ r.length + 1 = s.length
theorem Sh.of {s u : List Nat} (h : Sh ts n s) (hu : InW n u) (e : Eqv (zd ts) n u s) (hl : u.length = s.length) : Sh ts n u := ⟨hu, by rw [hl]; exact h.2.cong e.symm⟩
theorem Vu {x a b : List Nat} (hx : InW n x) (e : Eqv (zd ts) n (x ++ a) (x ++ b)) : Eqv (zd ts) n a b := by
 have h2 := zW ts
 have k : ∀ y : List Nat, Eqv (zd ts) n (x.reverse ++ (x ++ y)) y := fun y => by
  have := (Yr h2 hx).app (Eqv.rfl' (A := zd ts) (n := n) y)
  rw [g1g] at this
  exact this
 exact (k a).symm.trans (((Eqv.rfl' x.reverse).app e).trans (k b))
theorem YJ {i j : Nat} (hi : i < n) (hj : j < n) (m : Nat) : InW n (wc i j m) := fun k hk => by
 obtain ⟨a, _, rfl⟩ := g2q.mp hk
 split <;> assumption
variable (hg : yP ts)
include hg
theorem Dn.np {s : List Nat} {t : Nat} (hs : Sh ts n s) (ht : t < n) (h : Dn ts n s t) : NPr (zR (zd ts) s.reverse (zX n t)) := by
 obtain ⟨r, h1, h2, h3⟩ := h
 have hr : Sh ts n (t :: r) := hs.of (InW.cons ht h1) h2 (by simpa using h3)
 have h4 := hr.rev
 rw [g2f] at h4
 have h5 := QS hg h4
 refine HB hg ?_ h5
 have := Eqv.rev (zW ts) hr.1 hs.1 h2
 rw [g2f] at this
 exact this
theorem JL {s : List Nat} (hs : Sh ts n s) {f t : Nat} (hft : f ≠ t) (hf : f < n) (ht : t < n) (d1 : Dn ts n s f) (d2 : Dn ts n s t) :
  ∃ (c : List Nat) (m : Nat), yQ ts f t = (m : Int) /\ (2 <= m /\ m <= 6) /\ InW n c /\ Eqv (zd ts) n (wc f t m ++ c) s /\ Eqv (zd ts) n (wc f t m) (wc t f m) /\ m + c.length = s.length := by
 obtain ⟨c, m, em, hm, hc, g1, g2, g3, g4⟩ := JM hg hs.rev (Ne.symm hft) ht hf (d2.np hg hs ht) (d1.np hg hs hf)
 have em' : yQ ts f t = (m : Int) := by rw [qT]; exact em
 have e1 := Eqv.rev (zW ts) g1.1 hs.1.rev g2
 rw [List.reverse_append, YI, g1z] at e1
 have br := Bo (ts := ts) (n := n) (Ne.symm hft) ht hf em hm
 have e2 := Eqv.rev (zW ts) (By ht hf _) (By hf ht _) br
 rw [YI, YI] at e2
 refine ⟨c.reverse, m, em', hm, hc.rev, e1, e2, ?_⟩
 have l1 := g1.2.uniq (hs.rev.2.cong g2.symm)
 simp only [g0f, g1l, x6, g1s] at l1 ⊢
 omega
omit hg in
theorem Dn.head {f : Nat} {r : List Nat} (h : InW n (f :: r)) : Dn ts n (f :: r) f := ⟨r, fun x hx => h x (g0n _ hx), Eqv.rfl' _, rfl⟩
theorem Kt {s c x : List Nat} (hs : Sh ts n s) {f t m k : Nat} (hf : f < n) (ht : t < n) (hk : k < m) (hc : InW n c) (e : Eqv (zd ts) n (wc f t m ++ c) s) (hl : m + c.length = s.length) (hx : InW n x) (ex : Eqv (zd ts) n (wc f t k ++ x) s) (hxl : k + x.length = s.length) :
  Sh ts n x /\ Dn ts n x (if k % 2 = 0 then f else t) := by
 have ha := YJ hf ht (n := n) k
 have h1 : Sh ts n (wc f t k ++ x) := hs.of (ha.app hx) ex (by rw [g0f, yD]; exact hxl)
 have h2 : Sh ts n x := Sh.cut (a := wc f t k) (b := x) (c := []) (by simpa using h1)
 refine ⟨h2, ?_⟩
 have e1 : wc f t m = wc f t k ++ (wc f t m).drop k := by
  rw [<- Jz f t (g2t hk), List.take_append_drop]
 have e2 : (wc f t m).drop k = (if k % 2 = 0 then f else t) :: (wc f t m).drop (k + 1) := by
  rw [g1j (by rw [yD]; exact hk)]
  congr 1
  simp [wc]
 have e3 : Eqv (zd ts) n (wc f t k ++ x) (wc f t k ++ ((wc f t m).drop k ++ c)) := by
  rw [<- g1g, <- e1]
  exact ex.trans e.symm
 have e4 := Vu ha e3
 rw [e2] at e4
 refine ⟨(wc f t m).drop (k + 1) ++ c, ?_, e4.symm, ?_⟩
 ·exact InW.app (fun y hy => YJ hf ht m y (g2i hy)) hc
 ·rw [g0f, g1k, yD]
  omega
theorem Qz {s : List Nat} (hs : Sh ts n s) {a : Nat} (ha : a < n) (h : ¬ Sh ts n (a :: s)) : Dn ts n s a := by
 have h2 := zW ts
 have hl := hs.2.rev hs.1
 rcases wm hg hs.1.rev ha hl with ⟨_, k⟩ | ⟨_, k0, k⟩
 ·exfalso
  apply h
  have hw : InW n (s.reverse ++ [a]) := hs.1.rev.app (InW.one ha)
  have := k.rev hw
  rw [List.reverse_append, g1z] at this
  exact ⟨InW.cons ha hs.1, this⟩
 ·have hw : InW n (s.reverse ++ [a]) := hs.1.rev.app (InW.one ha)
  have := k.rev hw
  rw [List.reverse_append, g1z] at this
  obtain ⟨u, u1, u2, u3⟩ := this
  refine ⟨u, u1.1, ?_, by omega⟩
  have e : Eqv (zd ts) n ([a] ++ u) ([a] ++ ([a] ++ s)) := (Eqv.rfl' [a]).app u2
  have e2 : Eqv (zd ts) n ([a, a] ++ s) ([] ++ s) := (Eqv.twice h2 ha).app (Eqv.rfl' s)
  exact e.trans e2
theorem Y4 {w : List Nat} (hw : InW n w) : (wG ts n [] w).all id = true ↔ Sh ts n w := by
 obtain ⟨l, hl⟩ := Lth.ex (ts := ts) hw
 have h1 := JR hg hw hl
 obtain ⟨h2, h3, h4⟩ := UP (wG ts n [] w)
 rw [qy] at h3
 rw [<- h3, h1]
 constructor
 ·intro e
  have : l = w.length := by omega
  subst this
  exact ⟨hw, hl⟩
 ·intro h
  have := hl.uniq h.2
  omega
end
end GH
namespace Pk53
open PySem PySem.Spec PyProof.Rows L2 FL
def top (i : Nat) : Stmt := PySem.Challenge.pw_mirrorhouse_k53_whole_same_by_papers.main.body.getD i (.Pass ⟨0, 0, 0, 0⟩)
abbrev Zy : Stmt := top 1
abbrev qX : Stmt := top 2
abbrev qY : Stmt := top 3
abbrev xD : Stmt := top 4
abbrev Zv : Stmt := top 5
abbrev vM : Stmt := top 10
abbrev Zx : Stmt := top 11
abbrev uR : Stmt := top 15
abbrev wU : Stmt := top 16
abbrev V1 : Stmt := top 17
abbrev uU : Stmt := top 18
abbrev vN : Stmt := top 19
abbrev yn : Stmt := top 20
abbrev wY : Stmt := top 21
abbrev wX : Stmt := top 22
abbrev yH : Stmt := top 24
abbrev wW : Stmt := top 25
abbrev xm : Stmt := top 27
abbrev qZ : Stmt := top 28
abbrev uS : Stmt := top 29
abbrev Zw : Stmt := top 30
abbrev vS : Stmt := top 34
abbrev xG : Stmt := top 35
abbrev xU : Stmt := top 36
abbrev xE : Stmt := top 37
abbrev xF : Stmt := top 38
abbrev wR : Stmt := top 40
abbrev xT : Stmt := top 42
abbrev ja : Stmt := top 43
abbrev vO : Stmt := top 44
abbrev vQ : Stmt := top 45
abbrev uT : Stmt := top 46
abbrev V2 : Stmt := top 47
abbrev vP : Stmt := top 48
abbrev wV : Stmt := top 49
abbrev Z8 : Stmt := top 50
structure Txt (K : W.Frag) (mg : Str -> Option Value) : Prop where
 base : True
 all_b : mg "all" = none
 bool_b : mg "bool" = none
 enumerate_b : mg "enumerate" = none
 int_b : mg "int" = none
 isinstance_b : mg "isinstance" = none
 len_b : mg "len" = none
 list_b : mg "list" = none
 max_b : mg "max" = none
 min_b : mg "min" = none
 range_b : mg "range" = none
 reversed_b : mg "reversed" = none
 tuple_b : mg "tuple" = none
 zip_b : mg "zip" = none
 DROP_c : ∃ t, mg "DROP" = some (Value.str "drop" t)
 NEVER_c : ∃ t, mg "NEVER" = some (Value.int 0 t)
 NOT_TOLD_c : ∃ t, mg "NOT_TOLD" = some (Value.int 2 t)
 NOUGHT_c : GTup K mg "NOUGHT" [(.int 0), (.int 0)]
 ONE_c : GTup K mg "ONE" [(.int 1), (.int 0)]
 PULLS_BELOW_NOUGHT_c : GDict K mg "PULLS_BELOW_NOUGHT" [(0, (.tup [(.int 2), (.int 0)])), (2, (.tup [(.int 0), (.int 0)])), (3, (.tup [(.int 1), (.int 0)])), (4, (.tup [(.int 2), (.int 0)])), (5, (.tup [(.int 0), (.int 1)])), (6, (.tup [(.int 3), (.int 0)]))]
 TURN_c : ∃ t, mg "TURN" = some (Value.str "turn" t)
noncomputable def JC : FS := (yY (tupF (zb (zc yJ (zc ixD (vF 0) (cF (.int 0))) (zc ixD (vF 1) (cF (.int 0)))) (zb (zc yJ (zc ixD (vF 0) (cF (.int 1))) (zc ixD (vF 1) (cF (.int 1)))) zB))))
noncomputable def ur : List D -> Option D := uv 2 JC
theorem GZ : FnScope ["x", "y"] ["x", "y"] (ze Zy) := ⟨rfl, rfl, rfl, by decide +kernel, rfl, by decide +kernel, by decide +kernel⟩
section
variable {P : Program} {w : World} {K : W.Frag} {mg : Str -> Option Value} {base : Heap} {f : Addr} {fd : FuncData}
theorem Hy (Fn : Fun K "plus" "plus" Zy f fd) (T : Txt K mg)  :
  FnOk P w K mg base CX0 1 f fd ["x", "y"] (spF K 2 ur) :=
 yu (k := 0) (m := 2) (F := JC) rfl rfl Fn GZ fun cdv A outer s H E hr => (zj (zD (vo (za (zO (DE.dr (xJ (DE.dr (dv 0)) (DE.dr zk))) (DE.dr (xJ (DE.dr (dv 1)) (DE.dr zk)))) (za (zO (DE.dr (xJ (DE.dr (dv 0)) (DE.dr zk))) (DE.dr (xJ (DE.dr (dv 1)) (DE.dr zk)))) zp)))))
noncomputable def WM : FS := (yq (y4 2 (zc uz (zc ixD (vF 0) (cF (.int 1))) (zc ixD (vF 1) (cF (.int 1))))) (yY (tupF (zb (zc yJ (zc uz (zc ixD (vF 0) (cF (.int 0))) (zc ixD (vF 1) (cF (.int 0)))) (vF 2)) (zb (zc yJ (zc yJ (zc uz (zc ixD (vF 0) (cF (.int 0))) (zc ixD (vF 1) (cF (.int 1)))) (zc uz (zc ixD (vF 0) (cF (.int 1))) (zc ixD (vF 1) (cF (.int 0))))) (vF 2)) zB)))))
noncomputable def vc : List D -> Option D := uv 3 WM
theorem WZ : FnScope ["x", "y", "both"] ["x", "y"] (ze qX) := ⟨rfl, rfl, rfl, by decide +kernel, rfl, by decide +kernel, by decide +kernel⟩
theorem Kj (Fn : Fun K "times" "times" qX f fd) (T : Txt K mg)  :
  FnOk P w K mg base CX0 1 f fd ["x", "y"] (spF K 2 vc) :=
 yu (k := 0) (m := 3) (F := WM) rfl rfl Fn WZ fun cdv A outer s H E hr => (zf (zV 2 WZ.nd (uJ (DE.dr (xJ (DE.dr (dv 0)) (DE.dr zk))) (DE.dr (xJ (DE.dr (dv 1)) (DE.dr zk))))) (zj (zD (vo (za (zO (DE.dr (uJ (DE.dr (xJ (DE.dr (dv 0)) (DE.dr zk))) (DE.dr (xJ (DE.dr (dv 1)) (DE.dr zk))))) (DE.dr (dv 2))) (za (zO (DE.dr (zO (DE.dr (uJ (DE.dr (xJ (DE.dr (dv 0)) (DE.dr zk))) (DE.dr (xJ (DE.dr (dv 1)) (DE.dr zk))))) (DE.dr (uJ (DE.dr (xJ (DE.dr (dv 0)) (DE.dr zk))) (DE.dr (xJ (DE.dr (dv 1)) (DE.dr zk))))))) (DE.dr (dv 2))) zp))))))
noncomputable def WN : FS := (yY (tupF (zb (uB Ko (zc ixD (vF 0) (cF (.int 0)))) (zb (uB Ko (zc ixD (vF 0) (cF (.int 1)))) zB))))
noncomputable def wA : List D -> Option D := uv 1 WN
theorem JW : FnScope ["x"] ["x"] (ze qY) := ⟨rfl, rfl, rfl, by decide +kernel, rfl, by decide +kernel, by decide +kernel⟩
theorem Kk (Fn : Fun K "minus" "minus" qY f fd) (T : Txt K mg)  :
  FnOk P w K mg base CX0 1 f fd ["x"] (spF K 1 wA) :=
 yu (k := 0) (m := 1) (F := WN) rfl rfl Fn JW fun cdv A outer s H E hr => (zj (zD (vo (za (YA (DE.dr (xJ (DE.dr (dv 0)) (DE.dr zk)))) (za (YA (DE.dr (xJ (DE.dr (dv 0)) (DE.dr zk)))) zp)))))
noncomputable def wz : FS := (yq (ifS (blF (zc gtD (vF 0) (cF (.int 0)))) (yY (cF (.int 1))) nxF) (yq (ifS (blF (zc ltD (vF 0) (cF (.int 0)))) (yY (uB Ko (cF (.int 1)))) nxF) (yY (cF (.int 0)))))
noncomputable def yt : List D -> Option D := uv 1 wz
theorem Z3 : FnScope ["number"] ["number"] (ze xD) := ⟨rfl, rfl, rfl, by decide +kernel, rfl, by decide +kernel, by decide +kernel⟩
theorem Yh (Fn : Fun K "whole_sign" "whole_sign" xD f fd) (T : Txt K mg)  :
  FnOk P w K mg base CX0 1 f fd ["number"] (spF K 1 yt) :=
 yu (k := 0) (m := 1) (F := wz) rfl rfl Fn Z3 fun cdv A outer s H E hr => (zf (y0 (Be (DE.dr (dv 0)) (DE.dr zk)) (zj (zD zk)) zN) (zf (y0 (Bc (DE.dr (dv 0)) (DE.dr zk)) (zj (zD (YA (DE.dr zk)))) zN) (zj (zD zk))))
noncomputable def VI : FS := (yq (y4 1 (z5 yt (zb (zc ixD (vF 0) (cF (.int 0))) zB))) (yq (y4 2 (z5 yt (zb (zc ixD (vF 0) (cF (.int 1))) zB))) (yq (ifS (blF (zc geD (zc uz (vF 1) (vF 2)) (cF (.int 0)))) (yY (z5 yt (zb (zc yJ (vF 1) (vF 2)) zB))) nxF) (yq (y4 3 (zc Ga (zc yJ (zc uz (zc ixD (vF 0) (cF (.int 0))) (zc ixD (vF 0) (cF (.int 0)))) (zc uz (zc ixD (vF 0) (cF (.int 0))) (zc ixD (vF 0) (cF (.int 1))))) (zc uz (zc ixD (vF 0) (cF (.int 1))) (zc ixD (vF 0) (cF (.int 1)))))) (yY (zc uz (vF 1) (z5 yt (zb (vF 3) zB))))))))
noncomputable def vY : List D -> Option D := uv 4 VI
theorem Z4 : FnScope ["x", "whole", "golden", "product"] ["x"] (ze Zv) := ⟨rfl, rfl, rfl, by decide +kernel, rfl, by decide +kernel, by decide +kernel⟩
theorem Hv (Fn : Fun K "sign" "sign" Zv f fd) (T : Txt K mg) (h_whole_sign : HasFn P w K mg base 1 "whole_sign" 1 yt) :
  FnOk P w K mg base CX0 2 f fd ["x"] (spF K 1 vY) :=
 yu (k := 1) (m := 4) (F := VI) rfl rfl Fn Z4 fun cdv A outer s H E hr => (zf (zV 1 Z4.nd (zr h_whole_sign (hr.mono (by decide)) rfl (za (xJ (DE.dr (dv 0)) (DE.dr zk)) zp) (zq yb))) (zf (zV 2 Z4.nd (zr h_whole_sign (hr.mono (by decide)) rfl (za (xJ (DE.dr (dv 0)) (DE.dr zk)) zp) (zq yb))) (zf (y0 (Bf (DE.dr (uJ (DE.dr (dv 1)) (DE.dr (dv 2)))) (DE.dr zk)) (zj (zD (zr h_whole_sign (hr.mono (by decide)) rfl (za (zO (DE.dr (dv 1)) (DE.dr (dv 2))) zp) (zq yb)))) zN) (zf (zV 3 Z4.nd (KW (DE.dr (zO (DE.dr (uJ (DE.dr (xJ (DE.dr (dv 0)) (DE.dr zk))) (DE.dr (xJ (DE.dr (dv 0)) (DE.dr zk))))) (DE.dr (uJ (DE.dr (xJ (DE.dr (dv 0)) (DE.dr zk))) (DE.dr (xJ (DE.dr (dv 0)) (DE.dr zk))))))) (DE.dr (uJ (DE.dr (xJ (DE.dr (dv 0)) (DE.dr zk))) (DE.dr (xJ (DE.dr (dv 0)) (DE.dr zk))))))) (zj (zD (uJ (DE.dr (dv 1)) (DE.dr (zr h_whole_sign (hr.mono (by decide)) rfl (za (dv 3) zp) (zq yb))))))))))
noncomputable def Zb : FS := (yq (y4 3 (z5 BA (zb (vF 1) (zb (vF 2) zB)))) (yq (y4 4 (z5 BB (zb (vF 1) (zb (vF 2) zB)))) (yq (Zj (yj (zc ixD (vF 0) (cF (.int 1)))) (Zs 3 (y7 (zQ 5) (y7 (zQ 6) (y7 (zQ 7) YO)))) (ifS (WI (blF (zc eqF (vF 5) (vF 3))) (blF (zc eqF (vF 6) (vF 4)))) (yY (vF 7)) nxF)) (yY (cF (.int 2))))))
noncomputable def zx : List D -> Option D := uv 8 Zb
theorem wQ : FnScope ["house", "i", "j", "lesser", "greater", "first", "second", "m"] ["house", "i", "j"] (ze vM) := ⟨rfl, rfl, rfl, by decide +kernel, rfl, by decide +kernel, by decide +kernel⟩
theorem V8 (Fn : Fun K "turn_of" "turn_of" vM f fd) (T : Txt K mg)  :
  FnOk P w K mg base CX0 1 f fd ["house", "i", "j"] (spF K 3 zx) :=
 yu (k := 0) (m := 8) (F := Zb) rfl rfl Fn wQ fun cdv A outer s H E hr => (zf (zV 3 wQ.nd (wD (XQ rfl) Ja rfl T.min_b (by rfl) (zJ (DE.dr (dv 1)) (zJ (DE.dr (dv 2)) yo)))) (zf (zV 4 wQ.nd (wD (XR rfl) Jb rfl T.max_b (by rfl) (zJ (DE.dr (dv 1)) (zJ (DE.dr (dv 2)) yo)))) (zf (vf PassesOwn.never rfl (jN (xJ (DE.dr (dv 0)) (DE.dr zk))) (kU rfl (yS (ya 5 wQ.nd) (yS (ya 6 wQ.nd) (yS (ya 7 wQ.nd) qq)))) (zj (y0 (DW.dt (kR (vn hr (DE.dr (dv 5)) (DE.dr (dv 3))) (kQ (vn hr (DE.dr (dv 6)) (DE.dr (dv 4)))))) (zj (zD (dv 7))) zN))) (zj (zD (GM rfl T.NOT_TOLD_c))))))
noncomputable def vi : FS := (yq (ifS (blF (zc eqF (vF 1) (vF 2))) (yY (tupF (zb (cF (.int 2)) (zb (cF (.int 0)) zB)))) nxF) (yq (y4 3 (z5 zx (zb (vF 0) (zb (vF 1) (zb (vF 2) zB))))) (yq (ifS (WI (blF (zc gtD (vF 1) (vF 2))) (blF (zc (inD false) (vF 3) (tupF (zb (cF (.int 4)) (zb (cF (.int 6)) zB)))))) (yY (tupF (zb (uB Ko (cF (.int 1))) (zb (cF (.int 0)) zB)))) nxF) (yY (z5 wA (zb (uB (jf [(0, (.tup [(.int 2), (.int 0)])), (2, (.tup [(.int 0), (.int 0)])), (3, (.tup [(.int 1), (.int 0)])), (4, (.tup [(.int 2), (.int 0)])), (5, (.tup [(.int 0), (.int 1)])), (6, (.tup [(.int 3), (.int 0)]))]) (vF 3)) zB))))))
noncomputable def xf : List D -> Option D := uv 4 vi
theorem UW : FnScope ["house", "i", "j", "turn"] ["house", "i", "j"] (ze Zx) := ⟨rfl, rfl, rfl, by decide +kernel, rfl, by decide +kernel, by decide +kernel⟩
theorem Hx (Fn : Fun K "pull" "pull" Zx f fd) (T : Txt K mg) (h_minus : HasFn P w K mg base 1 "minus" 1 wA) (h_turn_of : HasFn P w K mg base 1 "turn_of" 3 zx) :
  FnOk P w K mg base CX0 2 f fd ["house", "i", "j"] (spF K 3 xf) :=
 yu (k := 1) (m := 4) (F := vi) rfl rfl Fn UW fun cdv A outer s H E hr => (zf (y0 (vn hr (DE.dr (dv 1)) (DE.dr (dv 2))) (zj (zD (vo (za zk (za zk zp))))) zN) (zf (zV 3 UW.nd (zr h_turn_of (hr.mono (by decide)) rfl (za (dv 0) (za (dv 1) (za (dv 2) zp))) (zq (zq (zq yb))))) (zf (y0 (DW.dt (kR (Be (DE.dr (dv 1)) (DE.dr (dv 2))) (kQ (Fu hr (DE.dr (dv 3)) (DE.dr (vo (za zk (za zk zp)))))))) (zj (zD (vo (za (YA (DE.dr zk)) (za zk zp))))) zN) (zj (zD (zr h_minus (hr.mono (by decide)) rfl (za (Bj rfl T.PULLS_BELOW_NOUGHT_c (DE.dr (dv 3))) zp) (zq yb)))))))
noncomputable def YK : FS := (yY (z5 jy (zb (y9 (u4 1 [1] (W6 (zb (zc ixD (vF 0) (cF (.int 0))) zB)) (zQ 0) ttF (ifF (blF (zc eqF (vF 0) (vF 1))) (cF (.tup [(.int 1), (.int 0)])) (cF (.tup [(.int 0), (.int 0)]))))) zB)))
noncomputable def vq : List D -> Option D := uv 2 YK
theorem UV : FnScope ["house", "i"] ["house", "i"] (ze uR) := ⟨rfl, rfl, rfl, by decide +kernel, rfl, by decide +kernel, by decide +kernel⟩
theorem Qv (Fn : Fun K "simple" "simple" uR f fd) (T : Txt K mg)  :
  FnOk P w K mg base CX0 1 f fd ["house", "i"] (spF K 2 vq) :=
 yu (k := 0) (m := 2) (F := YK) rfl rfl Fn UV fun cdv A outer s H E hr => (zj (zD (uX wN qK rfl T.tuple_b (by rfl) (zJ (DE.dr (DN.de (kT (own := ["j"]) (frees := ["i"]) (caps := [1]) rfl (.of (by kernel_rfl)) rfl vE (wx rfl T.range_b (zJ (DE.dr (xJ (DE.dr (dv 0)) (DE.dr zk))) yo)) (fun cl C s H fp => ⟨(ya 0 (show List.Nodup (["j", "i"] : List Str) from by decide +kernel)), jL, (Jn (vn hr (DE.dr (dv 0)) (DE.dr (dv 1))) (Jo rfl T.ONE_c) (Jo rfl T.NOUGHT_c))⟩)))) yo))))
noncomputable def jt : FS := (yq (y4 3 (cF (.tup [(.int 0), (.int 0)]))) (yq (Zj (qI (vF 2)) (Zs 2 (y7 (zQ 4) (y7 (zQ 5) YO))) (y4 3 (z5 ur (zb (vF 3) (zb (z5 vc (zb (z5 xf (zb (vF 0) (zb (vF 1) (zb (vF 4) zB)))) (zb (vF 5) zB))) zB))))) (yY (zc yJ (zc yJ (yg (vF 2) noP (exP (vF 1))) (tupF (zb (z5 ur (zb (zc ixD (vF 2) (vF 1)) (zb (z5 wA (zb (vF 3) zB)) zB))) zB))) (yg (vF 2) (exP (zc yJ (vF 1) (cF (.int 1)))) noP)))))
noncomputable def xX : List D -> Option D := uv 6 jt
theorem w8 : FnScope ["house", "i", "row", "less", "j", "number"] ["house", "i", "row"] (ze wU) := ⟨rfl, rfl, rfl, by decide +kernel, rfl, by decide +kernel, by decide +kernel⟩
theorem Wk (Fn : Fun K "mirrored" "mirrored" wU f fd) (T : Txt K mg) (h_minus : HasFn P w K mg base 1 "minus" 1 wA) (h_plus : HasFn P w K mg base 1 "plus" 2 ur) (h_pull : HasFn P w K mg base 2 "pull" 3 xf) (h_times : HasFn P w K mg base 1 "times" 2 vc) :
  FnOk P w K mg base CX0 3 f fd ["house", "i", "row"] (spF K 3 xX) :=
 yu (k := 2) (m := 6) (F := jt) rfl rfl Fn w8 fun cdv A outer s H E hr => (zf (zV 3 w8.nd (Jo rfl T.NOUGHT_c)) (zf (vf PassesOwn.never rfl (Yy rfl T.enumerate_b (dv 2)) (kU rfl (yS (ya 4 w8.nd) (yS (ya 5 w8.nd) qq))) (zj (zV 3 w8.nd (zr h_plus (hr.mono (by decide)) rfl (za (dv 3) (za (zr h_times (hr.mono (by decide)) rfl (za (zr h_pull (hr.mono (by decide)) rfl (za (dv 0) (za (dv 1) (za (dv 4) zp))) (zq (zq (zq yb)))) (za (dv 5) zp)) (zq (zq yb))) zp)) (zq (zq yb)))))) (zj (zD (zO (DE.dr (zO (DE.dr (yF (DE.dr (dv 2)) uA (wu (DE.dr (dv 1))))) (DE.dr (vo (za (zr h_plus (hr.mono (by decide)) rfl (za (xJ (DE.dr (dv 2)) (DE.dr (dv 1))) (za (zr h_minus (hr.mono (by decide)) rfl (za (dv 3) zp) (zq yb)) zp)) (zq (zq yb))) zp))))) (DE.dr (yF (DE.dr (dv 2)) (wu (DE.dr (zO (DE.dr (dv 1)) (DE.dr zk)))) uA)))))))
noncomputable def Bv : FS := (yq (Zj (QV (vF 1)) (zQ 3) (y4 2 (z5 xX (zb (vF 0) (zb (vF 3) (zb (vF 2) zB)))))) (yY (vF 2)))
noncomputable def Xx : List D -> Option D := uv 4 Bv
theorem UX : FnScope ["house", "word", "row", "mirror"] ["house", "word", "row"] (ze V1) := ⟨rfl, rfl, rfl, by decide +kernel, rfl, by decide +kernel, by decide +kernel⟩
theorem CH (Fn : Fun K "led" "led" V1 f fd) (T : Txt K mg) (h_mirrored : HasFn P w K mg base 3 "mirrored" 3 xX) :
  FnOk P w K mg base CX0 4 f fd ["house", "word", "row"] (spF K 3 Xx) :=
 yu (k := 3) (m := 4) (F := Bv) rfl rfl Fn UX fun cdv A outer s H E hr => (zf (vf PassesOwn.never rfl (C9 rfl T.reversed_b (dv 1)) (ya 3 UX.nd) (zj (zV 2 UX.nd (zr h_mirrored (hr.mono (by decide)) rfl (za (dv 0) (za (dv 3) (za (dv 2) zp))) (zq (zq (zq yb))))))) (zj (zD (dv 2))))
noncomputable def YN : FS := (yY (y9 (u4 1 [0, 1] (W6 (zb (zc ixD (vF 0) (cF (.int 0))) zB)) (zQ 0) ttF (z5 Xx (zb (vF 1) (zb (vF 2) (zb (z5 vq (zb (vF 1) (zb (vF 0) zB))) zB)))))))
noncomputable def xq : List D -> Option D := uv 2 YN
theorem UY : FnScope ["house", "word"] ["house", "word"] (ze uU) := ⟨rfl, rfl, rfl, by decide +kernel, rfl, by decide +kernel, by decide +kernel⟩
theorem Qy (Fn : Fun K "images" "images" uU f fd) (T : Txt K mg) (h_led : HasFn P w K mg base 4 "led" 3 Xx) (h_simple : HasFn P w K mg base 1 "simple" 2 vq) :
  FnOk P w K mg base CX0 5 f fd ["house", "word"] (spF K 2 xq) :=
 yu (k := 4) (m := 2) (F := YN) rfl rfl Fn UY fun cdv A outer s H E hr => (zj (zD (DN.de (kT (own := ["i"]) (frees := ["house", "word"]) (caps := [0, 1]) rfl (.of (by kernel_rfl)) rfl vE (wx rfl T.range_b (zJ (DE.dr (xJ (DE.dr (dv 0)) (DE.dr zk))) yo)) (fun cl C s H fp => ⟨(ya 0 (show List.Nodup (["i", "house", "word"] : List Str) from by decide +kernel)), jL, (zr h_led (hr.mono (by decide)) rfl (za (dv 1) (za (dv 2) (za (zr h_simple (hr.mono (by decide)) rfl (za (dv 1) (za (dv 0) zp)) (zq (zq yb))) zp))) (zq (zq (zq yb))))⟩)))))
noncomputable def Zc : FS := (yY (z5 jy (zb (y9 (u4 2 [1] (ZK (vF 0) (vF 2)) (Zs 2 (y7 (zQ 0) (y7 (zQ 1) YO))) ttF (z5 ur (zb (vF 0) (zb (z5 wA (zb (z5 vc (zb (vF 2) (zb (vF 1) zB))) zB)) zB))))) zB)))
noncomputable def wq : List D -> Option D := uv 3 Zc
theorem VY : FnScope ["row", "factor", "other"] ["row", "factor", "other"] (ze vN) := ⟨rfl, rfl, rfl, by decide +kernel, rfl, by decide +kernel, by decide +kernel⟩
theorem V9 (Fn : Fun K "less_by" "less_by" vN f fd) (T : Txt K mg) (h_minus : HasFn P w K mg base 1 "minus" 1 wA) (h_plus : HasFn P w K mg base 1 "plus" 2 ur) (h_times : HasFn P w K mg base 1 "times" 2 vc) :
  FnOk P w K mg base CX0 2 f fd ["row", "factor", "other"] (spF K 3 wq) :=
 yu (k := 1) (m := 3) (F := Zc) rfl rfl Fn VY fun cdv A outer s H E hr => (zj (zD (uX wN qK rfl T.tuple_b (by rfl) (zJ (DE.dr (DN.de (kT (own := ["x", "y"]) (frees := ["factor"]) (caps := [1]) rfl (.of (by kernel_rfl)) rfl (Gy (jX vE (jX vE QT))) (C8 rfl T.zip_b (dv 0) (dv 2)) (fun cl C s H fp => ⟨(kU rfl (yS (ya 0 (show List.Nodup (["x", "y", "factor"] : List Str) from by decide +kernel)) (yS (ya 1 (show List.Nodup (["x", "y", "factor"] : List Str) from by decide +kernel)) qq))), jL, (zr h_plus (hr.mono (by decide)) rfl (za (dv 0) (za (zr h_minus (hr.mono (by decide)) rfl (za (zr h_times (hr.mono (by decide)) rfl (za (dv 2) (za (dv 1) zp)) (zq (zq yb))) zp) (zq yb)) zp)) (zq (zq yb)))⟩)))) yo))))
noncomputable def xt : FS := (yY (y9 (u4 2 [0, 2, 1] (qI (vF 1)) (Zs 2 (y7 (zQ 0) (y7 (zQ 1) YO))) ttF (z5 wq (zb (vF 1) (zb (z5 xf (zb (vF 2) (zb (vF 3) (zb (vF 0) zB)))) (zb (zc ixD (vF 4) (vF 3)) zB)))))))
noncomputable def zG : List D -> Option D := uv 3 xt
theorem uD : FnScope ["house", "rows", "i"] ["house", "rows", "i"] (ze yn) := ⟨rfl, rfl, rfl, by decide +kernel, rfl, by decide +kernel, by decide +kernel⟩
theorem uG (Fn : Fun K "images_with_behind" "images_with_behind" yn f fd) (T : Txt K mg) (h_less_by : HasFn P w K mg base 2 "less_by" 3 wq) (h_pull : HasFn P w K mg base 2 "pull" 3 xf) :
  FnOk P w K mg base CX0 3 f fd ["house", "rows", "i"] (spF K 3 zG) :=
 yu (k := 2) (m := 3) (F := xt) rfl rfl Fn uD fun cdv A outer s H E hr => (zj (zD (DN.de (kT (own := ["j", "row"]) (frees := ["house", "i", "rows"]) (caps := [0, 2, 1]) rfl (.of (by kernel_rfl)) rfl (Gy (jX vE (jX vE QT))) (Yy rfl T.enumerate_b (dv 1)) (fun cl C s H fp => ⟨(kU rfl (yS (ya 0 (show List.Nodup (["j", "row", "house", "i", "rows"] : List Str) from by decide +kernel)) (yS (ya 1 (show List.Nodup (["j", "row", "house", "i", "rows"] : List Str) from by decide +kernel)) qq))), jL, (zr h_less_by (hr.mono (by decide)) rfl (za (dv 1) (za (zr h_pull (hr.mono (by decide)) rfl (za (dv 2) (za (dv 3) (za (dv 0) zp))) (zq (zq (zq yb)))) (za (xJ (DE.dr (dv 4)) (DE.dr (dv 3))) zp))) (zq (zq (zq yb))))⟩)))))
noncomputable def jx : FS := (yq (y4 1 (y9 (u4 1 [] (yj (vF 0)) (zQ 0) ttF (z5 vY (zb (vF 0) zB))))) (yY (BF (zc (inD false) (cF (.int 1)) (vF 1)) (zc (inD true) (uB Ko (cF (.int 1))) (vF 1)))))
noncomputable def xZ : List D -> Option D := uv 2 jx
theorem kh : FnScope ["row", "signs"] ["row"] (ze wY) := ⟨rfl, rfl, rfl, by decide +kernel, rfl, by decide +kernel, by decide +kernel⟩
theorem Wo (Fn : Fun K "is_above" "is_above" wY f fd) (T : Txt K mg) (h_sign : HasFn P w K mg base 2 "sign" 1 vY) :
  FnOk P w K mg base CX0 3 f fd ["row"] (spF K 1 xZ) :=
 yu (k := 2) (m := 2) (F := jx) rfl rfl Fn kh fun cdv A outer s H E hr => (zf (jk 1 kh.nd (own := ["x"]) (frees := []) (caps := []) rfl (.of (by kernel_rfl)) rfl vE (jN (dv 0)) (fun cl C s H fp => ⟨(ya 0 (show List.Nodup (["x"] : List Str) from by decide +kernel)), jL, (zr h_sign (hr.mono (by decide)) rfl (za (dv 0) zp) (zq yb))⟩)) (zj (zD (K0 (Mn hr (DE.dr zk) (DE.dr (dv 1))) (KY (Jm hr (DE.dr (YA (DE.dr zk))) (DE.dr (dv 1))))))))
noncomputable def jw : FS := (yq (y4 1 (y9 (u4 1 [] (yj (vF 0)) (zQ 0) ttF (z5 vY (zb (vF 0) zB))))) (yY (BF (zc (inD false) (uB Ko (cF (.int 1))) (vF 1)) (zc (inD true) (cF (.int 1)) (vF 1)))))
noncomputable def xY : List D -> Option D := uv 2 jw
theorem kg : FnScope ["row", "signs"] ["row"] (ze wX) := ⟨rfl, rfl, rfl, by decide +kernel, rfl, by decide +kernel, by decide +kernel⟩
theorem Wn (Fn : Fun K "is_below" "is_below" wX f fd) (T : Txt K mg) (h_sign : HasFn P w K mg base 2 "sign" 1 vY) :
  FnOk P w K mg base CX0 3 f fd ["row"] (spF K 1 xY) :=
 yu (k := 2) (m := 2) (F := jw) rfl rfl Fn kg fun cdv A outer s H E hr => (zf (jk 1 kg.nd (own := ["x"]) (frees := []) (caps := []) rfl (.of (by kernel_rfl)) rfl vE (jN (dv 0)) (fun cl C s H fp => ⟨(ya 0 (show List.Nodup (["x"] : List Str) from by decide +kernel)), jL, (zr h_sign (hr.mono (by decide)) rfl (za (dv 0) zp) (zq yb))⟩)) (zj (zD (K0 (Mn hr (DE.dr (YA (DE.dr zk))) (DE.dr (dv 1))) (KY (Jm hr (DE.dr zk) (DE.dr (dv 1))))))))
noncomputable def wF : FS := (yq (BE 2 (Xs zB)) (yq (y4 3 (z5 xq (zb (vF 0) (zb (tupF zB) zB)))) (yq (Zj (yj (vF 1)) (zQ 4) (yq (uO 2 (z5 xZ (zb (zc ixD (vF 3) (vF 4)) zB))) (y4 3 (z5 zG (zb (vF 0) (zb (vF 3) (zb (vF 4) zB))))))) (C0 2 (yY (vF 2))))))
noncomputable def yI : List D -> Option D := uv 5 wF
theorem yT : FnScope ["house", "word", "told", "rows", "mirror"] ["house", "word"] (ze yH) := ⟨rfl, rfl, rfl, by decide +kernel, rfl, by decide +kernel, by decide +kernel⟩
theorem jc (Fn : Fun K "which_lengthen" "which_lengthen" yH f fd) (T : Txt K mg) (h_images : HasFn P w K mg base 5 "images" 2 xq) (h_images_with_behind : HasFn P w K mg base 3 "images_with_behind" 3 zG) (h_is_above : HasFn P w K mg base 3 "is_above" 1 xZ) :
  FnOk P w K mg base CX0 6 f fd ["house", "word"] (spF K 2 yI) :=
 yu (k := 5) (m := 5) (F := wF) rfl rfl Fn yT fun cdv A outer s H E hr => (zf (Yw 2 yT.nd (jM zp)) (zf (zV 3 yT.nd (zr h_images (hr.mono (by decide)) rfl (za (dv 0) (za (vo zp) zp)) (zq (zq yb)))) (zf (vf PassesOwn.never rfl (jN (dv 1)) (ya 4 yT.nd) (zf (kS 2 (zr h_is_above (hr.mono (by decide)) rfl (za (xJ (DE.dr (dv 3)) (DE.dr (dv 4))) zp) (zq yb))) (zj (zV 3 yT.nd (zr h_images_with_behind (hr.mono (by decide)) rfl (za (dv 0) (za (dv 3) (za (dv 4) zp))) (zq (zq (zq yb)))))))) (Ji 2 (zj (zD (dv 2)))))))
noncomputable def jv : FS := (yY (z5 Dw (zb (z5 yI (zb (vF 0) (zb (vF 1) zB))) zB)))
noncomputable def ye : List D -> Option D := uv 2 jv
theorem Wd : FnScope ["house", "word"] ["house", "word"] (ze wW) := ⟨rfl, rfl, rfl, by decide +kernel, rfl, by decide +kernel, by decide +kernel⟩
theorem Wm (Fn : Fun K "is_short" "is_short" wW f fd) (T : Txt K mg) (h_which_lengthen : HasFn P w K mg base 6 "which_lengthen" 2 yI) :
  FnOk P w K mg base CX0 7 f fd ["house", "word"] (spF K 2 ye) :=
 yu (k := 6) (m := 2) (F := jv) rfl rfl Fn Wd fun cdv A outer s H E hr => (zj (zD (wD (K5 rfl) HZ rfl T.all_b (by rfl) (zJ (DE.dr (zr h_which_lengthen (hr.mono (by decide)) rfl (za (dv 0) (za (dv 1) zp)) (zq (zq yb)))) yo))))
noncomputable def um : FS := (yq (Zj (qI (vF 0)) (Zs 2 (y7 (zQ 1) (y7 (zQ 2) YO))) (ifS (blF (z5 xY (zb (vF 2) zB))) (yY (vF 1)) nxF)) (yY (cF .non)))
noncomputable def yK : List D -> Option D := uv 3 um
theorem vB : FnScope ["rows", "mirror", "row"] ["rows"] (ze xm) := ⟨rfl, rfl, rfl, by decide +kernel, rfl, by decide +kernel, by decide +kernel⟩
theorem Zh (Fn : Fun K "first_below" "first_below" xm f fd) (T : Txt K mg) (h_is_below : HasFn P w K mg base 3 "is_below" 1 xY) :
  FnOk P w K mg base CX0 4 f fd ["rows"] (spF K 1 yK) :=
 yu (k := 3) (m := 3) (F := um) rfl rfl Fn vB fun cdv A outer s H E hr => (zf (vf PassesOwn.never rfl (Yy rfl T.enumerate_b (dv 0)) (kU rfl (yS (ya 1 vB.nd) (yS (ya 2 vB.nd) qq))) (zj (y0 (ZN (DE.dr (zr h_is_below (hr.mono (by decide)) rfl (za (dv 2) zp) (zq yb)))) (zj (zD (dv 1))) zN))) (zj (zD vg)))
noncomputable def WO : FS := (yq (BE 2 (Xs zB)) (yq (y4 3 (z5 xq (zb (vF 0) (zb (Dq (vF 1)) zB)))) (yq (y4 4 (z5 yK (zb (vF 3) zB))) (yq (qx (blF (zc (isD true) (vF 4) (cF .non))) (yq (uO 2 (vF 4)) (yq (y4 3 (z5 zG (zb (vF 0) (zb (vF 3) (zb (vF 4) zB))))) (y4 4 (z5 yK (zb (vF 3) zB))))) 100000) (yY (z5 jy (zb (vR 2) zB)))))))
noncomputable def uI : List D -> Option D := uv 5 WO
theorem uP : FnScope ["house", "word", "signs", "rows", "mirror"] ["house", "word"] (ze qZ) := ⟨rfl, rfl, rfl, by decide +kernel, rfl, by decide +kernel, by decide +kernel⟩
theorem Kl (Fn : Fun K "least" "least" qZ f fd) (T : Txt K mg) (h_first_below : HasFn P w K mg base 4 "first_below" 1 yK) (h_images : HasFn P w K mg base 5 "images" 2 xq) (h_images_with_behind : HasFn P w K mg base 3 "images_with_behind" 3 zG) :
  FnOk P w K mg base CX0 6 f fd ["house", "word"] (spF K 2 uI) :=
 yu (k := 5) (m := 5) (F := WO) rfl rfl Fn uP fun cdv A outer s H E hr => (zf (Yw 2 uP.nd (jM zp)) (zf (zV 3 uP.nd (zr h_images (hr.mono (by decide)) rfl (za (dv 0) (za (KU rfl rfl T.tuple_b rfl T.reversed_b (dv 1)) zp)) (zq (zq yb)))) (zf (zV 4 uP.nd (zr h_first_below (hr.mono (by decide)) rfl (za (dv 3) zp) (zq yb))) (zf (KO 100000 PassesOwn.never (Vw (DE.dr (dv 4)) (DE.dr vg)) (zf (kS 2 (dv 4)) (zf (zV 3 uP.nd (zr h_images_with_behind (hr.mono (by decide)) rfl (za (dv 0) (za (dv 3) (za (dv 4) zp))) (zq (zq (zq yb))))) (zj (zV 4 uP.nd (zr h_first_below (hr.mono (by decide)) rfl (za (dv 3) zp) (zq yb))))))) (zj (zD (uX wN qK rfl T.tuple_b (by rfl) (zJ (dvr 2) yo))))))))
noncomputable def YL : FS := (yq (Zj (Yp (z5 xq (zb (vF 0) (zb (vF 1) zB))) (z5 xq (zb (vF 0) (zb (vF 2) zB)))) (Zs 2 (y7 (zQ 3) (y7 (zQ 4) YO))) (ifS (blF (zc neF (zc ixD (vF 4) (cF (.int 0))) (zc ixD (vF 4) (cF (.int 1))))) (yY (vF 3)) nxF)) (yY (cF .non)))
noncomputable def uW : List D -> Option D := uv 5 YL
theorem kf : FnScope ["house", "one", "other", "mirror", "rows"] ["house", "one", "other"] (ze uS) := ⟨rfl, rfl, rfl, by decide +kernel, rfl, by decide +kernel, by decide +kernel⟩
theorem Qw (Fn : Fun K "parted" "parted" uS f fd) (T : Txt K mg) (h_images : HasFn P w K mg base 5 "images" 2 xq) :
  FnOk P w K mg base CX0 6 f fd ["house", "one", "other"] (spF K 3 uW) :=
 yu (k := 5) (m := 5) (F := YL) rfl rfl Fn kf fun cdv A outer s H E hr => (zf (vf PassesOwn.never rfl (KS rfl T.enumerate_b rfl T.zip_b (zr h_images (hr.mono (by decide)) rfl (za (dv 0) (za (dv 1) zp)) (zq (zq yb))) (zr h_images (hr.mono (by decide)) rfl (za (dv 0) (za (dv 2) zp)) (zq (zq yb)))) (kU rfl (yS (ya 3 kf.nd) (yS (ya 4 kf.nd) qq))) (zj (y0 (Yv hr (DE.dr (xJ (DE.dr (dv 4)) (DE.dr zk))) (DE.dr (xJ (DE.dr (dv 4)) (DE.dr zk)))) (zj (zD (dv 3))) zN))) (zj (zD vg)))
noncomputable def JB : FS := (yY (zc (isD false) (z5 uW (zb (vF 0) (zb (vF 1) (zb (vF 2) zB)))) (cF .non)))
noncomputable def kJ : List D -> Option D := uv 3 JB
theorem GY : FnScope ["house", "one", "other"] ["house", "one", "other"] (ze Zw) := ⟨rfl, rfl, rfl, by decide +kernel, rfl, by decide +kernel, by decide +kernel⟩
theorem Hw (Fn : Fun K "same" "same" Zw f fd) (T : Txt K mg) (h_parted : HasFn P w K mg base 6 "parted" 3 uW) :
  FnOk P w K mg base CX0 7 f fd ["house", "one", "other"] (spF K 3 kJ) :=
 yu (k := 6) (m := 3) (F := JB) rfl rfl Fn GY fun cdv A outer s H E hr => (zj (zD (MP (DE.dr (zr h_parted (hr.mono (by decide)) rfl (za (dv 0) (za (dv 1) (za (dv 2) zp))) (zq (zq (zq yb))))) (DE.dr vg))))
noncomputable def Zf : FS := (yY (z5 jy (zb (y9 (u4 1 [0, 1] (W6 (zb (vF 2) zB)) (zQ 0) ttF (ifF (blF (zc eqF (zc vZ (vF 0) (cF (.int 2))) (cF (.int 0)))) (vF 1) (vF 2)))) zB)))
noncomputable def zA : List D -> Option D := uv 3 Zf
theorem V0 : FnScope ["i", "j", "signs"] ["i", "j", "signs"] (ze vS) := ⟨rfl, rfl, rfl, by decide +kernel, rfl, by decide +kernel, by decide +kernel⟩
theorem Ud (Fn : Fun K "in_turn" "in_turn" vS f fd) (T : Txt K mg)  :
  FnOk P w K mg base CX0 1 f fd ["i", "j", "signs"] (spF K 3 zA) :=
 yu (k := 0) (m := 3) (F := Zf) rfl rfl Fn V0 fun cdv A outer s H E hr => (zj (zD (uX wN qK rfl T.tuple_b (by rfl) (zJ (DE.dr (DN.de (kT (own := ["place"]) (frees := ["i", "j"]) (caps := [0, 1]) rfl (.of (by kernel_rfl)) rfl vE (wx rfl T.range_b (zJ (DE.dr (dv 2)) yo)) (fun cl C s H fp => ⟨(ya 0 (show List.Nodup (["place", "i", "j"] : List Str) from by decide +kernel)), jL, (Jn (vn hr (DE.dr (wL (DE.dr (dv 0)) (DE.dr zk))) (DE.dr zk)) (dv 1) (dv 2))⟩)))) yo))))
noncomputable def xI : FS := (yq (ifS (Wq (blF (uM leD ltD (cF (.int 0)) (vF 1) (zc Ga (z5 Zi (zb (vF 0) zB)) (cF (.int 1)))))) (yY (cF .non)) nxF) (yq (ifS (blF (zc neF (zc ixD (vF 0) (vF 1)) (zc ixD (vF 0) (zc yJ (vF 1) (cF (.int 1)))))) (yY (cF .non)) nxF) (yY (zc yJ (yg (vF 0) noP (exP (vF 1))) (yg (vF 0) (exP (zc yJ (vF 1) (cF (.int 2)))) noP)))))
noncomputable def yL : List D -> Option D := uv 2 xI
theorem Z6 : FnScope ["word", "place"] ["word", "place"] (ze xG) := ⟨rfl, rfl, rfl, by decide +kernel, rfl, by decide +kernel, by decide +kernel⟩
theorem Yk (Fn : Fun K "after_drop" "after_drop" xG f fd) (T : Txt K mg)  :
  FnOk P w K mg base CX0 1 f fd ["word", "place"] (spF K 2 yL) :=
 yu (k := 0) (m := 2) (F := xI) rfl rfl Fn Z6 fun cdv A outer s H E hr => (zf (y0 (qM (j3 Qo V6 Xk ZF (DE.dr zk) (DE.dr (dv 1)) (DE.dr (KW (DE.dr (wD wy ql rfl T.len_b (by rfl) (zJ (DE.dr (dv 0)) yo))) (DE.dr zk))))) (zj (zD vg)) zN) (zf (y0 (Yv hr (DE.dr (xJ (DE.dr (dv 0)) (DE.dr (dv 1)))) (DE.dr (xJ (DE.dr (dv 0)) (DE.dr (zO (DE.dr (dv 1)) (DE.dr zk)))))) (zj (zD vg)) zN) (zj (zD (zO (DE.dr (yF (DE.dr (dv 0)) uA (wu (DE.dr (dv 1))))) (DE.dr (yF (DE.dr (dv 0)) (wu (DE.dr (zO (DE.dr (dv 1)) (DE.dr zk)))) uA)))))))
noncomputable def uk : FS := (yY (uM leD ltD (cF (.int 0)) (vF 1) (zc ixD (vF 0) (cF (.int 0)))))
noncomputable def xg : List D -> Option D := uv 2 uk
theorem Y7 : FnScope ["house", "i"] ["house", "i"] (ze xU) := ⟨rfl, rfl, rfl, by decide +kernel, rfl, by decide +kernel, by decide +kernel⟩
theorem Xm (Fn : Fun K "is_mirror" "is_mirror" xU f fd) (T : Txt K mg)  :
  FnOk P w K mg base CX0 1 f fd ["house", "i"] (spF K 2 xg) :=
 yu (k := 0) (m := 2) (F := uk) rfl rfl Fn Y7 fun cdv A outer s H E hr => (zj (zD (Bk Qo V6 Xk ZF (DE.dr zk) (DE.dr (dv 1)) (DE.dr (xJ (DE.dr (dv 0)) (DE.dr zk))))))
noncomputable def yy : FS := (yq (ifS (Wq (blF (uM leD ltD (cF (.int 0)) (vF 2) (z5 Zi (zb (vF 1) zB))))) (yY (cF .non)) nxF) (yq (ifS (orT (Wq (blF (z5 xg (zb (vF 0) (zb (vF 3) zB))))) (orT (Wq (blF (z5 xg (zb (vF 0) (zb (vF 4) zB))))) (blF (zc eqF (vF 3) (vF 4))))) (yY (cF .non)) nxF) (yq (y4 5 (z5 zx (zb (vF 0) (zb (vF 3) (zb (vF 4) zB))))) (yq (y4 6 (zc yJ (vF 2) (vF 5))) (yq (ifS (orT (blF (zc eqF (vF 5) (cF (.int 0)))) (blF (zc neF (yg (vF 1) (exP (vF 2)) (exP (vF 6))) (z5 zA (zb (vF 3) (zb (vF 4) (zb (vF 5) zB))))))) (yY (cF .non)) nxF) (yY (zc yJ (zc yJ (yg (vF 1) noP (exP (vF 2))) (z5 zA (zb (vF 4) (zb (vF 3) (zb (vF 5) zB))))) (yg (vF 1) (exP (vF 6)) noP))))))))
noncomputable def yf : List D -> Option D := uv 7 yy
theorem uc : FnScope ["house", "word", "place", "i", "j", "turn", "end"] ["house", "word", "place", "i", "j"] (ze xE) := ⟨rfl, rfl, rfl, by decide +kernel, rfl, by decide +kernel, by decide +kernel⟩
theorem Yi (Fn : Fun K "after_turn" "after_turn" xE f fd) (T : Txt K mg) (h_in_turn : HasFn P w K mg base 1 "in_turn" 3 zA) (h_is_mirror : HasFn P w K mg base 1 "is_mirror" 2 xg) (h_turn_of : HasFn P w K mg base 1 "turn_of" 3 zx) :
  FnOk P w K mg base CX0 2 f fd ["house", "word", "place", "i", "j"] (spF K 5 yf) :=
 yu (k := 1) (m := 7) (F := yy) rfl rfl Fn uc fun cdv A outer s H E hr => (zf (y0 (qM (j3 Qo V6 Xk ZF (DE.dr zk) (DE.dr (dv 2)) (DE.dr (wD wy ql rfl T.len_b (by rfl) (zJ (DE.dr (dv 1)) yo))))) (zj (zD vg)) zN) (zf (y0 (DW.dt (Yu (qM (ZN (DE.dr (zr h_is_mirror (hr.mono (by decide)) rfl (za (dv 0) (za (dv 3) zp)) (zq (zq yb)))))) (Yu (qM (ZN (DE.dr (zr h_is_mirror (hr.mono (by decide)) rfl (za (dv 0) (za (dv 4) zp)) (zq (zq yb)))))) (ZM (vn hr (DE.dr (dv 3)) (DE.dr (dv 4))))))) (zj (zD vg)) zN) (zf (zV 5 uc.nd (zr h_turn_of (hr.mono (by decide)) rfl (za (dv 0) (za (dv 3) (za (dv 4) zp))) (zq (zq (zq yb))))) (zf (zV 6 uc.nd (zO (DE.dr (dv 2)) (DE.dr (dv 5)))) (zf (y0 (DW.dt (Yu (vn hr (DE.dr (dv 5)) (DE.dr (GM rfl T.NEVER_c))) (ZM (Yv hr (DE.dr (yF (DE.dr (dv 1)) (wu (DE.dr (dv 2))) (wu (DE.dr (dv 6))))) (DE.dr (zr h_in_turn (hr.mono (by decide)) rfl (za (dv 3) (za (dv 4) (za (dv 5) zp))) (zq (zq (zq yb))))))))) (zj (zD vg)) zN) (zj (zD (zO (DE.dr (zO (DE.dr (yF (DE.dr (dv 1)) uA (wu (DE.dr (dv 2))))) (DE.dr (zr h_in_turn (hr.mono (by decide)) rfl (za (dv 4) (za (dv 3) (za (dv 5) zp))) (zq (zq (zq yb))))))) (DE.dr (yF (DE.dr (dv 1)) (wu (DE.dr (dv 6))) uA))))))))))
noncomputable def vz : FS := (yq (ifS (blF (zc eqF (zc ixD (vF 2) (cF (.int 0))) (cF (.str "drop")))) (yY (z5 yL (zb (vF 1) (zb (zc ixD (vF 2) (cF (.int 1))) zB)))) nxF) (yY (z5 yf (zb (vF 0) (zb (vF 1) (zb (zc ixD (vF 2) (cF (.int 1))) (zb (zc ixD (vF 2) (cF (.int 2))) (zb (zc ixD (vF 2) (cF (.int 3))) zB))))))))
noncomputable def zo : List D -> Option D := uv 3 vz
theorem Z5 : FnScope ["house", "word", "move"] ["house", "word", "move"] (ze xF) := ⟨rfl, rfl, rfl, by decide +kernel, rfl, by decide +kernel, by decide +kernel⟩
theorem Yj (Fn : Fun K "after_move" "after_move" xF f fd) (T : Txt K mg) (h_after_drop : HasFn P w K mg base 1 "after_drop" 2 yL) (h_after_turn : HasFn P w K mg base 2 "after_turn" 5 yf) :
  FnOk P w K mg base CX0 3 f fd ["house", "word", "move"] (spF K 3 zo) :=
 yu (k := 2) (m := 3) (F := vz) rfl rfl Fn Z5 fun cdv A outer s H E hr => (zf (y0 (vn hr (DE.dr (xJ (DE.dr (dv 2)) (DE.dr zk))) (DE.dr (Jp rfl T.DROP_c))) (zj (zD (zr h_after_drop (hr.mono (by decide)) rfl (za (dv 1) (za (xJ (DE.dr (dv 2)) (DE.dr zk)) zp)) (zq (zq yb))))) zN) (zj (zD (zr h_after_turn (hr.mono (by decide)) rfl (za (dv 0) (za (dv 1) (za (xJ (DE.dr (dv 2)) (DE.dr zk)) (za (xJ (DE.dr (dv 2)) (DE.dr zk)) (za (xJ (DE.dr (dv 2)) (DE.dr zk)) zp))))) (zq (zq (zq (zq (zq yb)))))))))
abbrev sWI : Stmt := Yq (top 39) 0
abbrev sWD : Stmt := Yq (top 39) 1
abbrev sWB : Stmt := Yq (top 39) 2
abbrev sWS : Stmt := Yq (top 39) 3
def Dl (K : W.Frag) (mg : Str -> Option Value) : Prop := ∃ (C fI fD fB fS : Addr) (dI dD dB dS : FuncData), Cls K C /\ xx K C "house" /\ xx K C "word" /\ xx K C "moves" /\ mg "Walk" = some (.ref C) ∧
 Fun K "__init__" "Walk.__init__" sWI fI dI /\ Fun K "do" "Walk.do" sWD fD dD /\ Fun K "bring" "Walk.bring" sWB fB dB /\ Fun K "shorten" "Walk.shorten" sWS fS dS ∧
 uo K dI ["self", "house", "word"] [] /\ uo K dD ["self", "move"] [] /\ uo K dB ["self", "place", "mirror"] [] /\ uo K dS ["self"] [] /\ Mk K C fI /\ Meth K C "do" fD /\ Meth K C "bring" fB /\ Meth K C "shorten" fS
def FN (C : Addr) : Sp := fun vs H Q _ => ∃ (p dx : Addr) (vh vw : V), vs = [.ref p, vh, vw] /\ H p = some (.ins C dx []) /\ ∀ (l : Addr) (H' : Hp), H l = none -> H' p = some (.ins C dx (XA vh vw l)) -> H' l = some (.lst []) -> (∀ b o, H b = some o -> b ≠ p -> H' b = some o) -> Q .non H'
def Dp (K : W.Frag) (C : Addr) : Sp := fun vs H Q _ => ∃ (p dx l : Addr) (Hf : Hp) (hd wd md : D) (ms : List D) (vm : V) (ws' : WS), vs = [.ref p, vm] /\ WAt K C p dx l H Hf hd wd ms /\ Has K Hf md vm /\ doD zo hd (wd, ms) md = some ws' ∧
 ∀ H' Hf', Chg p l H Hf H' Hf' -> WAt K C p dx l H' Hf' hd ws'.1 ws'.2 -> Q .non H'
def DO (K : W.Frag) (C : Addr) (n : Nat) : Sp := fun vs H Q _ => ∃ (p dx l : Addr) (Hf : Hp) (hd wd pd md : D) (ms : List D) (vp vm : V) (ws' : WS), vs = [.ref p, vp, vm] /\ WAt K C p dx l H Hf hd wd ms /\ Has K Hf pd vp /\ Has K Hf md vm /\ wI zo zx zA hd n (wd, ms) pd md = some ws' ∧
 ∀ H' Hf', Chg p l H Hf H' Hf' -> WAt K C p dx l H' Hf' hd ws'.1 ws'.2 -> Q .non H'
def FM (K : W.Frag) (C : Addr) (n : Nat) : Sp := fun vs H Q _ => ∃ (p dx l : Addr) (Hf : Hp) (hd wd : D) (ms : List D) (ws' : WS), vs = [.ref p] /\ WAt K C p dx l H Hf hd wd ms /\ kd zo zx zA ye hd n (wd, ms) = some ws' ∧
 ∀ H' Hf', Chg p l H Hf H' Hf' -> WAt K C p dx l H' Hf' hd ws'.1 ws'.2 -> Q .non H'
theorem MB : FnScope ["self", "house", "word"] ["self", "house", "word"] (ze sWI) := ⟨rfl, rfl, rfl, by decide +kernel, rfl, by decide +kernel, by decide +kernel⟩
theorem Fe {P : Program} {w : World} {K : W.Frag} {mg : Str -> Option Value} {base : Heap} {f C : Addr} {fd : FuncData} (F : Fun K "__init__" "Walk.__init__" sWI f fd) (cl : Cls K C) (nH : xx K C "house") (nW : xx K C "word") (nM : xx K C "moves") :
  FnOk P w K mg base CX0 1 f fd ["self", "house", "word"] (FN C) := by
 refine F.ok (k := 0) MB (fun vs H Q E h => ?_) (fun cdv A outer s H vs Q E hr h => ?_)
 ·obtain ⟨p, dx, vh, vw, rfl, _⟩ := h
  rfl
 ·obtain ⟨p, dx, vh, vw, rfl, hp, k⟩ := h
  refine ⟨_, xo (Vc (pv 0) (pv 1) rfl) (xo (Vc (pv 0) (pv 2) rfl) (vb (Vc (pv 0) (Gq xb) rfl))), ?_⟩
  refine ⟨_, rfl, _, rfl, p, C, dx, [], rfl, hp, cl, nH, (by show 0 < 1000; decide), _, rfl, _, rfl, p, C, dx, _, rfl, zz, cl, nW, (by show 1 < 1000; decide), ?_⟩
  refine ⟨g2e _, fun l hl => ?_⟩
  have npl : p ≠ l := zL (by rw [zz]) hl
  refine ⟨_, rfl, p, C, dx, _, rfl, (by rw [zw npl, zz]), cl, nM, (by
   show (jE "word" vw (jE "house" vh [])).length < 1000
   show (if ("house" : Str) = "word" then (("house" : Str), vw) :: [] else (("house" : Str), vh) :: jE "word" vw []).length < 1000
   rw [if_neg Dv]
   show 2 < 1000
   decide), ?_⟩
  have hl0 : H l = none := by rw [zw npl.symm, zw npl.symm] at hl; exact hl
  refine k l _ hl0 zz (by rw [zw npl.symm, zz]) fun b o e hb => ?_
  rw [zw hb, zw (zL e hl0), zw hb, zw hb]
  exact e
theorem MC : FnScope ["self", "move"] ["self", "move"] (ze sWD) := ⟨rfl, rfl, rfl, by decide +kernel, rfl, by decide +kernel, by decide +kernel⟩
theorem Ff {P : Program} {w : World} {K : W.Frag} {mg : Str -> Option Value} {base : Heap} {f C : Addr} {fd : FuncData} (F : Fun K "do" "Walk.do" sWD f fd) (cl : Cls K C) (nH : xx K C "house") (nW : xx K C "word") (nM : xx K C "moves")
  (h_after_move : HasFn P w K mg base 3 "after_move" 3 zo) : FnOk P w K mg base CX0 (3 + 1) f fd ["self", "move"] (Dp K C) := by
 obtain ⟨fa, fda, psa, F1, m1, k1, b1⟩ := h_after_move.ex
 refine F.ok (k := 3) MC (fun vs H Q E h => ?_) (fun cdv A outer s H vs Q E hr h => ?_)
 ·obtain ⟨p, dx, l, Hf, hd, wd, md, ms, vm, ws', rfl, _⟩ := h
  rfl
 ·obtain ⟨p, dx, l, Hf, hd, wd, md, ms, vm, ws', rfl, A1, hm, g1, k⟩ := h
  obtain ⟨vh, vw, o1, o2, o3⟩ := A1.ob
  unfold doD at g1
  cases e1 : zo [hd, wd, md] with
  | none => rw [e1] at g1; cases g1
  | some wd' =>
   rw [e1] at g1
   have g1 : (if ms.length < sizeLine then some (wd', ms ++ [md]) else none) = some ws' := g1
   split at g1
   ·rename_i hz
    cases g1
    refine ⟨_, xo (Vc (pv 0) (kr F1 hr rfl m1 k1 b1 .nil jS (zM (qc (pv 0) rfl) (zM (qc (pv 0) rfl) (zM (pv 1) xb)))) rfl) (vb (uE (Cu PySem.F.plainAttrs_list PySem.F.slot_list_append PySem.F.type_list_append kB (qc (pv 0) rfl) (zM (pv 1) xb)))), ?_⟩
    refine ⟨_, rfl, p, C, dx, _, _, rfl, o1, cl, nH, Fq _ _ _, _, rfl, p, C, dx, _, _, rfl, o1, cl, nW, C1 _ _ _, _, rfl, ?_⟩
    refine ⟨Hf, [hd, wd, md], wd', A1.sf, .cons o2 (.cons o3 (.cons hm .nil)), rfl, e1, fun v H1 Hf1 gr hv => ?_⟩
    have A2 := A1.grows gr
    have q1 := gr.h _ _ o1
    obtain ⟨A3, c3⟩ := A2.setWord q1 (o2.mono gr.f) hv
    refine ⟨_, rfl, p, C, dx, _, rfl, q1, cl, nW, (by rw [Wz]; show 3 < 1000; decide), ?_⟩
    rw [C2]
    obtain ⟨xs, l1, l2⟩ := A3.li
    obtain ⟨A4, c4⟩ := A3.more l1 l2 (hm.mono gr.f)
    refine ⟨_, rfl, p, C, dx, _, _, rfl, zz, cl, nM, Mm _ _ _, .inl ⟨rfl, _, SqL.of l1⟩, _, rfl, l, _, _, rfl, rfl, l1, (by rw [l2.length]; exact hz), ?_⟩
    exact k _ _ (((Chg.ofGrows gr).trans A2 c3).trans A3 c4) A4
   ·cases g1
theorem BQ : FnScope ["self", "place", "mirror", "first", "turn", "signs", "k"] ["self", "place", "mirror"] (ze sWB) := ⟨rfl, rfl, rfl, by decide +kernel, rfl, by decide +kernel, by decide +kernel⟩
theorem x5 {α : Type} {o : Option D} {k : D -> Option α} {r : α} (h : o.bind k = some r) : ∃ d, o = some d /\ k d = some r := by
 cases o with
 | none => cases h
 | some d => exact ⟨d, rfl, h⟩
theorem jr {α : Type} {o : Option (List D)} {k : List D -> Option α} {r : α} (h : o.bind k = some r) : ∃ d, o = some d /\ k d = some r := by
 cases o with
 | none => cases h
 | some d => exact ⟨d, rfl, h⟩
theorem uZ {α : Type} {o : Option WS} {k : WS -> Option α} {r : α} (h : o.bind k = some r) : ∃ d, o = some d /\ k d = some r := by
 cases o with
 | none => cases h
 | some d => exact ⟨d, rfl, h⟩
theorem je {f : D -> WS -> Option WS} {ks : List D} {i : Nat} {d : D} {ws we : WS} (hd : ks[i]? = some d) (h : vD f (ks.drop i) ws = some we) : ∃ w2, f d ws = some w2 /\ vD f (ks.drop (i + 1)) w2 = some we := by
 obtain ⟨hi, rfl⟩ := g0y.mp hd
 rw [g1j hi] at h
 unfold vD at h
 cases e : f ks[i] ws with
 | none => rw [e] at h; cases h
 | some w2 => rw [e] at h; exact ⟨w2, rfl, h⟩
theorem Fg {P : Program} {w : World} {K : W.Frag} {mg : Str -> Option Value} {base : Heap} {f fD C : Addr} {fd dD : FuncData} (F : Fun K "bring" "Walk.bring" sWB f fd) (T : Txt K mg) (cl : Cls K C) (nH : xx K C "house") (nW : xx K C "word") (nM : xx K C "moves")
  (bB : uo K fd ["self", "place", "mirror"] []) (mB : Meth K C "bring" f) (bD : uo K dD ["self", "move"] []) (mD : Meth K C "do" fD) (GD : FnOk P w K mg base CX0 (3 + 1) fD dD ["self", "move"] (Dp K C))
  (h_turn_of : HasFn P w K mg base 1 "turn_of" 3 zx) (h_in_turn : HasFn P w K mg base 1 "in_turn" 3 zA) : ∀ n : Nat, FnOk P w K mg base CX0 (8 + n) f fd ["self", "place", "mirror"] (DO K C n) := by
 obtain ⟨f2, fd2, ps2, F2, m2, k2, b2⟩ := h_turn_of.ex
 obtain ⟨f3, fd3, ps3, F3, m3, k3, b3⟩ := h_in_turn.ex
 intro n
 induction n with
 | zero =>
  refine ⟨fun vs H Q E h => ?_, fun A outer s H args us vs Q E hr e0 hb hv h => ?_⟩
  ·obtain ⟨p, dx, l, Hf, hd, wd, pd, md, ms, vp, vm, ws', rfl, _⟩ := h
   rfl
  ·obtain ⟨p, dx, l, Hf, hd, wd, pd, md, ms, vp, vm, ws', rfl, _, _, _, g, _⟩ := h
   cases g
 | succ n GB =>
  refine F.ok (k := 8 + n) BQ (fun vs H Q E h => ?_) (fun cdv A outer s H vs Q E hr h => ?_)
  ·obtain ⟨p, dx, l, Hf, hd, wd, pd, md, ms, vp, vm, ws', rfl, _⟩ := h
   rfl
  ·obtain ⟨p, dx, l, Hf, hd, wd, pd, md, ms, vp, vm, ws', rfl, A1, hp, hm, g1, k⟩ := h
   obtain ⟨vh, vw, o1, o2, o3⟩ := A1.ob
   refine ⟨_, xo (ZD (i := 3) BQ.nd rfl (Or.inl rfl) (Hh QU (qc (pv 0) rfl) (pv 1) (fun _ _ => rfl)))
    (xo (Hc (Qb (Qq hr) (pv 3) (pv 2) (qd _)) (vb Hb) Wf)
    (xo (ZD (i := 4) BQ.nd rfl (Or.inl rfl) (kr F2 (hr.mono (by omega)) rfl m2 k2 b2 .nil jS (zM (qc (pv 0) rfl) (zM (pv 3) (zM (pv 2) xb)))))
    (xo (ZD (i := 5) BQ.nd rfl (Or.inl rfl) (kr F3 (hr.mono (by omega)) rfl m3 k3 b3 .nil jS (zM (pv 3) (zM (pv 2) (zM (pv 4) xb)))))
    (xo (Vb PassesOwn.never rfl (XI rfl T.range_b (zJ (DE.dr zk) (zJ (DE.dr (dv 4)) yo))) (ko (i := 6) BQ.nd rfl (Or.inl rfl)) (vb (uE (kq (pv 0) cl mB GB hr bB .nil jS (zM (zO (DE.dr (dv 1)) (DE.dr (dv 6))) (zM (xJ (DE.dr (dv 5)) (DE.dr (dv 6))) xb))))))
    (vb (uE (kq (pv 0) cl mD GD (hr.mono (by omega)) bD .nil jS (zM (vo (za (Jp rfl T.TURN_c) (za (dv 1) (za (dv 3) (za (dv 2) zp))))) xb)))))))), ?_⟩
   unfold wI at g1
   cases e1 : ixD wd pd with
   | none => rw [e1] at g1; cases g1
   | some fd' =>
   rw [e1, g0a] at g1
   cases e2 : eqF fd' md with
   | none => rw [e2] at g1; cases g1
   | some bd =>
   rw [e2, g0a] at g1
   let X0 := K1 CX0 P w K mg base [] "" (ze sWB) f cdv A outer s H E
   refine ⟨_, rfl, p, C, dx, _, _, rfl, o1, cl, nW, C1 _ _ _, _, rfl, Hq (X := X0) Qs A1.sf o3 hp e1 fun v1 H1 Hf1 gr1 hv1 => ?_⟩
   refine ⟨_, rfl, _, rfl, Hq (X := X0) Qu gr1.fh hv1 (hm.mono gr1.f) e2 fun v2 H2 Hf2 gr2 hv2 => ?_⟩
   have A2 := (A1.grows gr1).grows gr2
   have c2 : Chg p l H Hf H2 Hf2 := (Chg.ofGrows gr1).trans (A1.grows gr1) (Chg.ofGrows gr2)
   have f2 : yp Hf Hf2 := gr1.f.trans gr2.f
   cases bd with
   | bl b =>
    refine ⟨b, Has.bl_iff.mp hv2, ?_⟩
    cases b with
    | true =>
     cases g1
     exact Ky (k _ _ c2 A2)
    | false =>
     refine Kz ?_
     have g1 : ((zx [hd, fd', md]).bind fun td => (zA [fd', md, td]).bind fun sd => (jD [.int 1, td]).bind fun ks =>
      (vD (fun k ws => (yJ pd k).bind fun pk => (ixD sd k).bind fun sk => wI zo zx zA hd n ws pk sk) ks (wd, ms)).bind fun ws' => doD zo hd ws' (.tup [.str "turn", pd, fd', md])) = some ws' := g1
     obtain ⟨td, e3, g2⟩ := x5 g1
     obtain ⟨sd, e4, g3⟩ := x5 g2
     obtain ⟨ks, e5, g4⟩ := jr g3
     obtain ⟨we, e6, g5⟩ := uZ g4
     obtain ⟨vh2, vw2, p1, p2, p3⟩ := A2.ob
     refine ⟨_, rfl, p, C, dx, _, _, rfl, p1, cl, nH, Fq _ _ _, _, rfl, _, rfl, ⟨Hf2, [hd, fd', md], td, A2.sf, .cons p2 (.cons (hv1.mono gr2.f) (.cons (hm.mono f2) .nil)), rfl, e3, fun v3 H3 Hf3 gr3 hv3 => ?_⟩⟩
     have A3 := A2.grows gr3
     have c3 := c2.trans A2 (Chg.ofGrows gr3)
     refine ⟨_, rfl, _, rfl, _, rfl, ⟨Hf3, [fd', md, td], sd, A3.sf, .cons ((hv1.mono gr2.f).mono gr3.f) (.cons (hm.mono (f2.trans gr3.f)) (.cons hv3 .nil)), rfl, e4, fun v4 H4 Hf4 gr4 hv4 => ?_⟩⟩
     have A4 := A3.grows gr4
     have c4 := c3.trans A3 (Chg.ofGrows gr4)
     have t4 : yp Hf Hf4 := (f2.trans gr3.f).trans gr4.f
     have w1 := hv1.mono ((gr2.f.trans gr3.f).trans gr4.f)
     have w3 := hv3.mono gr4.f
     have sl4 : ∀ {Hf6 : Hp} {o : Option V}, yp Hf4 Hf6 -> Sl K Hf6 [some (.ref p), some vp, some vm, some v1, some v3, some v4, o] [.no, .fr pd, .fr md, .fr fd', .fr td, .fr sd, .no] := fun t =>
      .no (.fr (hp.mono (t4.trans t)) (.fr (hm.mono (t4.trans t)) (.fr (w1.mono t) (.fr (w3.mono t) (.fr (hv4.mono t) (.no .nil))))))
     refine ⟨H4, Hf4, _, Hf4, ks, (sl4 (o := none) zv).rep A4.sf, (show Ce _ _ = some ks from e5), fun J H5 Hf5 R5 s5 t5 hw => ?_⟩
     have gr5 := R5.gr
     refine kL hw (fun i σ H6 Hf6 => ∃ (wd6 : D) (ms6 : List D) (o : Option V), σ = [some (.ref p), some vp, some vm, some v1, some v3, some v4, o] /\ WAt K C p dx l H6 Hf6 hd wd6 ms6 /\ Chg p l H Hf H6 Hf6 /\ yp Hf5 Hf6 ∧
      vD (fun k ws => (yJ pd k).bind fun pk => (ixD sd k).bind fun sk => wI zo zx zA hd n ws pk sk) (ks.drop i) (wd6, ms6) = some we)
      ⟨wd, ms, none, rfl, A4.grows gr5, c4.trans A4 (Chg.ofGrows gr5), zv, e6⟩ (fun i σ H6 Hf6 ⟨_, _, _, _, A6, _, t6, _⟩ => ⟨t6, A6.sf⟩) ?_ ?_
     ·rintro i d σ H6 Hf6 x H7 Hf7 hdi ⟨wd6, ms6, o, rfl, A6, c6, t6, lp⟩ gr7 hx
      obtain ⟨w2, l1, l2⟩ := je hdi lp
      obtain ⟨pk, l3, l4⟩ := x5 l1
      obtain ⟨sk, l5, l6⟩ := x5 l4
      have A7 := A6.grows gr7
      have c7 := c6.trans A6 (Chg.ofGrows gr7)
      obtain ⟨vh7, vw7, q1, q2, q3⟩ := A7.ob
      have tt7 : yp Hf4 Hf7 := (gr5.f.trans t6).trans gr7.f
      have sl7 : ∀ {Hf8 : Hp}, yp Hf7 Hf8 -> Sl K Hf8 [some (.ref p), some vp, some vm, some v1, some v3, some v4, some x] [.no, .fr pd, .fr md, .fr fd', .fr td, .fr sd, .fr d] := fun t =>
       .no (.fr (hp.mono (t4.trans (tt7.trans t))) (.fr (hm.mono (t4.trans (tt7.trans t))) (.fr (w1.mono (tt7.trans t)) (.fr (w3.mono (tt7.trans t)) (.fr (hv4.mono (tt7.trans t)) (.fr (hx.mono t) .nil))))))
      refine ⟨_, rfl, p, dx, _, rfl, q1, Uo _ _ _ (by decide +kernel) (by decide +kernel) (by decide +kernel), WB A7.sf (sl7 zv) (show yJ pd d = some pk from l3) fun v8 H8 Hf8 gr8 hv8 => ?_⟩
      have A8 := A7.grows gr8
      refine WB A8.sf (sl7 gr8.f) (show ixD sd d = some sk from l5) fun v9 H9 Hf9 gr9 hv9 => ?_
      have A9 := A8.grows gr9
      refine ⟨p, dx, l, Hf9, hd, wd6, pk, sk, ms6, v8, v9, w2, rfl, A9, hv8.mono gr9.f, hv9, l6, fun H10 Hf10 c10 A10 => ?_⟩
      exact ⟨Hf10, w2.1, w2.2, some x, rfl, A10, ((c7.trans A7 (Chg.ofGrows gr8)).trans A8 (Chg.ofGrows gr9)).trans A9 c10, (t6.trans gr7.f).trans ((gr8.f.trans gr9.f).trans c10.f), l2⟩
     ·rintro σ H6 Hf6 ⟨wd6, ms6, o, rfl, A6, c6, t6, lp⟩
      rw [List.drop_length] at lp
      cases lp
      obtain ⟨vh7, vw7, q1, q2, q3⟩ := A6.ob
      have tt6 : yp Hf4 Hf6 := gr5.f.trans t6
      have hs4 : (4 : Nat) <= sizeLine := g2t (vJ (by decide))
      refine ⟨_, rfl, p, dx, _, rfl, q1, Uo _ _ _ (by decide +kernel) (by decide +kernel) (by decide +kernel), WB (d := .tup [.str "turn", pd, fd', md]) A6.sf (sl4 tt6) (by
       simp only [wH, zm, zu, yR, yh, g0b, g0c, g0a, g0d, g0g, Nat.reduceAdd, hs4, if_true]) fun v8 H8 Hf8 gr8 hv8 => ?_⟩
      exact ⟨p, dx, l, Hf8, hd, _, _, _, v8, ws', rfl, A6.grows gr8, hv8, g5, fun H9 Hf9 c9 A9 => k _ _ ((c6.trans A6 (Chg.ofGrows gr8)).trans (A6.grows gr8) c9) A9⟩
   | _ => cases g1
theorem DU {K : W.Frag} {H Hf : Hp} {es : List D} {v : V} {lo hi : Option Int} {Q : VK} (sf : yp Hf H) (hv : Has K Hf (.tup es) v) (k : ∀ v' H' Hf', Grows H Hf H' Hf' -> Has K Hf' (.tup (qS es lo hi)) v' -> Q v' H') : Cg K v lo hi H Q := by
 obtain ⟨a, xs, rfl, qa, la⟩ := Has.tup_iff.mp hv
 refine ⟨a, xs, rfl, ux sf qa, fun hw => ?_, fun hw p hp => ?_⟩
 ·rw [la.length] at hw
  exact k _ _ _ (Grows.refl sf) (by rw [XJ hw]; exact hv)
 ·have R := ((Sl.nil (K := K) (Hf := Hf)).rep sf).lay (o := .tup (Ut xs lo hi)) hp
  have sm := zY (o := .tup (Ut xs lo hi)) (sf.free hp)
  exact k _ _ _ R.gr (Has.tup_iff.mpr ⟨p, _, rfl, SqT.of zz, (la.cut lo hi).mono sm⟩)
theorem FO : FnScope ["self", "place"] ["self"] (ze sWS) := ⟨rfl, rfl, rfl, by decide +kernel, rfl, by decide +kernel, by decide +kernel⟩
theorem Fd {P : Program} {w : World} {K : W.Frag} {mg : Str -> Option Value} {base : Heap} {f fD fB C : Addr} {fd dD dB : FuncData} (F : Fun K "shorten" "Walk.shorten" sWS f fd) (T : Txt K mg) (cl : Cls K C) (nH : xx K C "house") (nW : xx K C "word") (nM : xx K C "moves")
  (bB : uo K dB ["self", "place", "mirror"] []) (mB : Meth K C "bring" fB) (bD : uo K dD ["self", "move"] []) (mD : Meth K C "do" fD) (GD : FnOk P w K mg base CX0 (3 + 1) fD dD ["self", "move"] (Dp K C))
  (GB : FnOk P w K mg base CX0 (8 + 12) fB dB ["self", "place", "mirror"] (DO K C 12)) (h_is_short : HasFn P w K mg base 7 "is_short" 2 ye) : FnOk P w K mg base CX0 21 f fd ["self"] (FM K C 12) := by
 obtain ⟨f2, fd2, ps2, F2, m2, k2, b2⟩ := h_is_short.ex
 refine F.ok (k := 20) FO (fun vs H Q E h => ?_) (fun cdv A outer s H vs Q E hr h => ?_)
 ·obtain ⟨p, dx, l, Hf, hd, wd, ms, ws', rfl, _⟩ := h
  rfl
 ·obtain ⟨p, dx, l, Hf, hd, wd, ms, ws', rfl, A1, g1, k⟩ := h
  obtain ⟨vh, vw, o1, o2, o3⟩ := A1.ob
  refine ⟨_, vb (Vb PassesOwn.never rfl (Qf rfl T.range_b (zM (Cq Gs (Yf wy rfl T.len_b PySem.boot_len (zM (qc (pv 0) rfl) xb)) Gr) (zM (YA (DE.dr zk)) (zM (YA (DE.dr zk)) xb)))) (ko (i := 1) FO.nd rfl (Or.inl rfl))
   (vb (Hc (Gh (Gg (kr F2 (hr.mono (by omega)) rfl m2 k2 b2 .nil jS (zM (qc (pv 0) rfl) (zM (Vf UT (qc (pv 0) rfl) (Qd (pv 1)) Qe) xb)))))
    (xo (uE (kq (pv 0) cl mB GB hr bB .nil jS (zM (zO (DE.dr (dv 1)) (DE.dr zk)) (zM (Hh QU (qc (pv 0) rfl) (pv 1) (fun _ _ => rfl)) xb))))
     (vb (uE (kq (pv 0) cl mD GD (hr.mono (by omega)) bD .nil jS (zM (vo (za (Jp rfl T.DROP_c) (za (dv 1) zp))) xb))))) Wf))), ?_⟩
  unfold kd at g1
  cases wd with
  | tup ds =>
   have g1 : ((W8 [.int ((ds.length : Int) - 1), .int (-1), .int (-1)]).bind fun ks =>
    vD (jA zo zx zA ye hd 12) ks (.tup ds, ms)) = some ws' := g1
   obtain ⟨ks, e1, g2⟩ := jr g1
   have e1 : (if (-1 : Int) = -1 /\ -1000000 <= (ds.length : Int) - 1 /\ (ds.length : Int) - 1 <= 1000000 /\ -1000000 <= (-1 : Int) /\ (-1 : Int) <= 1000000 then some (XG ((ds.length : Int) - 1) (-1)) else none) = some ks := e1
   split at e1
   ·rename_i hb
    cases e1
    obtain ⟨a, xs, rfl, qa, la⟩ := Has.tup_iff.mp o3
    refine ⟨_, rfl, p, C, dx, _, _, rfl, o1, cl, nW, C1 _ _ _, .inl ⟨a, xs, rfl, .inr (ux A1.sf qa), ?_⟩⟩
    refine ⟨_, _, rfl, rfl, ?_⟩
    have sl1 : Sl K Hf [some (.ref p), none] [.no, .no] := .no (.no .nil)
    refine WB (d := .int (-1)) A1.sf sl1 rfl fun v1 H1 Hf1 gr1 hv1 => WB (d := .int (-1)) gr1.fh (sl1.mono gr1.f) rfl fun v2 H2 Hf2 gr2 hv2 => ?_
    have A2 := (A1.grows gr1).grows gr2
    have c2 : Chg p l H Hf H2 Hf2 := (Chg.ofGrows gr1).trans (A1.grows gr1) (Chg.ofGrows gr2)
    refine ⟨(xs.length : Int) - 1, -1, by rw [Has.int_iff.mp hv1, Has.int_iff.mp hv2], by rw [la.length]; exact hb.2, ?_⟩
    refine kL (VM (K := K) (Hf := Hf2)) (fun i σ H6 Hf6 => ∃ (wd6 : D) (ms6 : List D) (o : Option V), σ = [some (.ref p), o] /\ WAt K C p dx l H6 Hf6 hd wd6 ms6 /\ Chg p l H Hf H6 Hf6 /\ yp Hf2 Hf6 ∧
     vD (jA zo zx zA ye hd 12) (((g1f (((xs.length : Int) - 1) - -1).toNat).map fun (k : Nat) => D.int (((xs.length : Int) - 1) - (k : Int))).drop i) (wd6, ms6) = some ws')
     ⟨.tup ds, ms, none, rfl, A2, c2, zv, (by rw [la.length]; exact g2)⟩ (fun i σ H6 Hf6 ⟨_, _, _, _, A6, _, t6, _⟩ => ⟨t6, A6.sf⟩) ?_ ?_
    ·rintro i d σ H6 Hf6 x H7 Hf7 hdi ⟨wd6, ms6, o, rfl, A6, c6, t6, lp⟩ gr7 hx
     obtain ⟨w2, l1, l2⟩ := je hdi lp
     have A7 := A6.grows gr7
     have c7 := c6.trans A6 (Chg.ofGrows gr7)
     obtain ⟨vh7, vw7, q1, q2, q3⟩ := A7.ob
     cases wd6 with
     | tup es =>
      cases d with
      | int i7 =>
       have l1 : ((ye [hd, .tup (qS es (some i7) none)]).bind fun
        | .bl true => some (D.tup es, ms6)
        | .bl false => (ixD (.tup es) (.int i7)).bind fun fd => (wI zo zx zA hd 12 (.tup es, ms6) (.int (i7 + 1)) fd).bind fun ws' => doD zo hd ws' (.tup [.str "drop", .int i7])
        | _ => none) = some w2 := l1
       obtain ⟨bd, l3, l4⟩ := x5 l1
       cases Has.int_iff.mp hx
       refine ⟨_, rfl, p, C, dx, _, _, rfl, q1, cl, nH, Fq _ _ _, _, rfl, p, C, dx, _, _, rfl, q1, cl, nW, C1 _ _ _, _, rfl, i7, rfl, ?_⟩
       simp only [UM]
       refine DU A7.sf q3 fun v8 H8 Hf8 gr8 hv8 => ?_
       have A8 := A7.grows gr8
       have c8 := c7.trans A7 (Chg.ofGrows gr8)
       refine ⟨Hf8, [hd, .tup (qS es (some i7) none)], bd, A8.sf, .cons (q2.mono gr8.f) (.cons hv8 .nil), rfl, l3, fun v9 H9 Hf9 gr9 hv9 => ?_⟩
       have A9 := A8.grows gr9
       have c9 := c8.trans A8 (Chg.ofGrows gr9)
       have t9 : yp Hf2 Hf9 := ((t6.trans gr7.f).trans gr8.f).trans gr9.f
       cases bd with
       | bl b =>
        refine ⟨b, Has.bl_iff.mp hv9, ?_⟩
        cases b with
        | true =>
         cases l4
         refine Kz ?_
         exact ⟨Hf9, .tup es, ms6, _, rfl, A9, c9, t9, l2⟩
        | false =>
         refine Ky ?_
         have l4 : ((ixD (.tup es) (.int i7)).bind fun fd => (wI zo zx zA hd 12 (.tup es, ms6) (.int (i7 + 1)) fd).bind fun ws' => doD zo hd ws' (.tup [.str "drop", .int i7])) = some w2 := l4
         obtain ⟨fd', l5, l6⟩ := x5 l4
         obtain ⟨w3, l7, l8⟩ := uZ l6
         obtain ⟨vh9, vw9, r1, r2, r3⟩ := A9.ob
         have sl9 : ∀ {Hf' : Hp}, Sl K Hf' [some (.ref p), some (.int i7)] [.no, .fr (.int i7)] := .no (.fr (Has.int_iff.mpr rfl) .nil)
         let X0 := K1 CX0 P w K mg base [] "" (ze sWS) f cdv A outer s H E
         refine ⟨_, rfl, p, dx, _, rfl, r1, Uo _ _ _ (by decide +kernel) (by decide +kernel) (by decide +kernel), WB (d := .int (i7 + 1)) A9.sf sl9 rfl fun v10 H10 Hf10 gr10 hv10 => ?_⟩
         have A10 := A9.grows gr10
         obtain ⟨vh10, vw10, s1, s2, s3⟩ := A10.ob
         refine ⟨_, rfl, p, C, dx, _, _, rfl, s1, cl, nW, C1 _ _ _, _, rfl, Hq (X := X0) Qs A10.sf s3 (Has.int_iff.mpr rfl) l5 fun v11 H11 Hf11 gr11 hv11 => ?_⟩
         have A11 := A10.grows gr11
         have c11 := (c9.trans A9 (Chg.ofGrows gr10)).trans A10 (Chg.ofGrows gr11)
         refine ⟨p, dx, l, Hf11, hd, .tup es, .int (i7 + 1), fd', ms6, v10, v11, w3, rfl, A11, hv10.mono gr11.f, hv11, l7, fun H12 Hf12 c12 A12 => ?_⟩
         obtain ⟨vh12, vw12, u1, u2, u3⟩ := A12.ob
         have hs2 : (2 : Nat) <= sizeLine := g2t (vJ (by decide))
         refine ⟨_, rfl, p, dx, _, rfl, u1, Uo _ _ _ (by decide +kernel) (by decide +kernel) (by decide +kernel), WB (d := .tup [.str "drop", .int i7]) A12.sf sl9 (by
          simp only [wH, zm, zu, yR, yh, g0b, g0c, g0a, g0d, g0g, Nat.reduceAdd, hs2, if_true]) fun v13 H13 Hf13 gr13 hv13 => ?_⟩
         have A13 := A12.grows gr13
         refine ⟨p, dx, l, Hf13, hd, _, _, _, v13, w2, rfl, A13, hv13, l8, fun H14 Hf14 c14 A14 => ?_⟩
         exact ⟨Hf14, w2.1, w2.2, _, rfl, A14, ((c11.trans A11 c12).trans A12 (Chg.ofGrows gr13)).trans A13 c14, (t9.trans (gr10.f.trans gr11.f)).trans ((c12.f.trans gr13.f).trans c14.f), l2⟩
       | _ => cases l4
      | _ => cases l1
     | _ => cases l1
    ·rintro σ H6 Hf6 ⟨wd6, ms6, o, rfl, A6, c6, t6, lp⟩
     rw [List.drop_length] at lp
     cases lp
     exact k _ _ c6 A6
   ·cases e1
  | _ => cases g1
noncomputable def w4 : List D -> Option D := CP zo zx zA ye uI 12
theorem ua : FnScope ["house", "word", "walk", "place", "mirror"] ["house", "word"] (ze wR) := ⟨rfl, rfl, rfl, by decide +kernel, rfl, by decide +kernel, by decide +kernel⟩
theorem Wj (Fn : Fun K "to_least" "to_least" wR f fd) (T : Txt K mg) (W : Dl K mg)
  (h_after_move : HasFn P w K mg base 3 "after_move" 3 zo) (h_in_turn : HasFn P w K mg base 1 "in_turn" 3 zA) (h_is_short : HasFn P w K mg base 7 "is_short" 2 ye) (h_least : HasFn P w K mg base 6 "least" 2 uI) (h_turn_of : HasFn P w K mg base 1 "turn_of" 3 zx) :
  FnOk P w K mg base CX0 24 f fd ["house", "word"] (spF K 2 w4) := by
 obtain ⟨C, fI, fD, fB, fS, dI, dD, dB, dS, cl, nH, nW, nM, mgC, FI, FD, FB, FS, bI, bD, bB, bS, mk, mD, mB, mS⟩ := W
 have GI : FnOk P w K mg base CX0 1 fI dI ["self", "house", "word"] (FN C) := Fe FI cl nH nW nM
 have GD : FnOk P w K mg base CX0 (3 + 1) fD dD ["self", "move"] (Dp K C) := Ff FD cl nH nW nM h_after_move
 have GB : FnOk P w K mg base CX0 (8 + 12) fB dB ["self", "place", "mirror"] (DO K C 12) := Fg FB T cl nH nW nM bB mB bD mD GD h_turn_of h_in_turn 12
 have GS : FnOk P w K mg base CX0 21 fS dS ["self"] (FM K C 12) := Fd FS T cl nH nW nM bB mB bD mD GD GB h_is_short
 refine FnOk.mono (j := 22) ?_ (by decide)
 refine Fn.ok (k := 21) ua (fun vs H Q E h => ?_) (fun cdv A outer s H vs Q E hr h => ?_)
 ·obtain ⟨Hf, ds, d, _, h1, h2, _⟩ := h
  rw [h1.length]; exact h2
 ·obtain ⟨Hf, ds, d, sf, h1, h2, h3, k⟩ := h
  obtain ⟨hd, wd, rfl⟩ : ∃ hd wd, ds = [hd, wd] := by
   match ds, h2 with
   | [a, b], _ => exact ⟨a, b, rfl⟩
  obtain ⟨vh, r1, rfl, hh, h1⟩ := z7.cons_iff.mp h1
  obtain ⟨vw, r2, rfl, hw, h1⟩ := z7.cons_iff.mp h1
  cases z7.nil_iff.mp h1
  have g1 : ((kd zo zx zA ye hd 12 (wd, [])).bind fun ws => (uI [hd, wd]).bind fun ld => (ke ld).bind fun ds =>
   (vD (Xu zo zx zA hd 12) (x4 ds) ws).bind fun ws' => some (D.lst ws'.2)) = some d := h3
  obtain ⟨w1, e1, g2⟩ := uZ g1
  obtain ⟨ld, e2, g3⟩ := x5 g2
  obtain ⟨ls, e3, g4⟩ := jr g3
  obtain ⟨w2, e4, g5⟩ := uZ g4
  cases g5
  refine ⟨_, xo (ZD (i := 2) ua.nd rfl (Or.inl rfl) (Hg mk GI (hr.mono (by decide)) rfl mgC bI .nil jS (zM (pv 0) (zM (pv 1) xb))))
   (xo (uE (Ka (pv 2) cl mS GS hr bS .nil jS))
   (xo (Vb PassesOwn.never rfl (Yy rfl T.enumerate_b (zr h_least (hr.mono (by decide)) rfl (za (dv 0) (za (dv 1) zp)) (zq (zq yb)))) (Gn rfl (Ye (ko (i := 3) ua.nd rfl (Or.inl rfl)) (Ye (ko (i := 4) ua.nd rfl (Or.inl rfl)) Qi)))
    (vb (uE (kq (pv 2) cl mB GB (hr.mono (by decide)) bB .nil jS (zM (pv 3) (zM (pv 4) xb))))))
   (vb (Gi (qc (pv 2) rfl))))), ?_⟩
  refine ⟨_, rfl, _, rfl, ?_⟩
  intro p dx np ndx nex
  refine ⟨p, dx, vh, vw, rfl, zz, fun l H1 nl q1 q2 q3 => ⟨rfl, ?_⟩⟩
  have hm : ∀ b o, H b = some o -> H1 b = some o := fun b o e => q3 b o (by rw [zw (zL e np), zw (zL e ndx)]; exact e) (zL e np)
  have npl : l ≠ p := fun z => by subst z; rw [zz] at nl; cases nl
  have nl0 : H l = none := by
   cases z : H l with
   | none => rfl
   | some o => rw [zw npl, zw (zL z ndx), z] at nl; cases nl
  have A1 : WAt K C p dx l H1 Hf hd wd [] := ⟨fun b o e => hm b o (sf b o e), ⟨vh, vw, q1, hh, hw⟩, ⟨[], q2, .nil⟩, sf.free np, sf.free nl0⟩
  have c1 : Chg p l H Hf H1 Hf := ⟨fun b o e _ _ => hm b o e, zv, fun b o e => .inl e⟩
  refine ⟨_, rfl, p, dx, _, rfl, q1, Uo _ _ _ (by decide +kernel) (by decide +kernel) (by decide +kernel), ⟨p, dx, l, Hf, hd, wd, [], w1, rfl, A1, e1, fun H2 Hf2 c2 A2 => ?_⟩⟩
  have sl2 : ∀ {Hf' : Hp} {o1 o2 : Option V}, yp Hf Hf' -> Sl K Hf' [some vh, some vw, some (.ref p), o1, o2] [.fr hd, .fr wd, .no, .no, .no] := fun t => .fr (hh.mono t) (.fr (hw.mono t) (.no (.no (.no .nil))))
  have en : qI (z5 uI (zb (vF 0) (zb (vF 1) zB))) [.fr hd, .fr wd, .no, .no, .no] = some (x4 ls) := by
   simp only [Z9, yU, zy, zm, zu, yh, g0b, g0c, g0a, e2, e3]
  refine ⟨H2, Hf2, _, Hf2, x4 ls, (sl2 (o1 := none) (o2 := none) c2.f).rep A2.sf, en, fun J H3 Hf3 R3 s3 t3 hwk => ?_⟩
  have gr3 := R3.gr
  refine kL hwk (fun i σ H6 Hf6 => ∃ (wd6 : D) (ms6 : List D) (o1 o2 : Option V), σ = [some vh, some vw, some (.ref p), o1, o2] /\ WAt K C p dx l H6 Hf6 hd wd6 ms6 /\ Chg p l H Hf H6 Hf6 /\ yp Hf3 Hf6 ∧
   vD (Xu zo zx zA hd 12) ((x4 ls).drop i) (wd6, ms6) = some w2)
   ⟨w1.1, w1.2, none, none, rfl, A2.grows gr3, (c1.trans A1 c2).trans A2 (Chg.ofGrows gr3), zv, e4⟩ (fun i σ H6 Hf6 ⟨_, _, _, _, _, A6, _, t6, _⟩ => ⟨t6, A6.sf⟩) ?_ ?_
  ·rintro i d σ H6 Hf6 x H7 Hf7 hdi ⟨wd6, ms6, o1, o2, rfl, A6, c6, t6, lp⟩ gr7 hx
   obtain ⟨w3, l1, l2⟩ := je hdi lp
   obtain ⟨y, _, rfl⟩ := XF hdi
   have A7 := A6.grows gr7
   have c7 := c6.trans A6 (Chg.ofGrows gr7)
   obtain ⟨vh7, vw7, u1, u2, u3⟩ := A7.ob
   obtain ⟨a, xs, rfl, qa, la⟩ := Has.tup_iff.mp hx
   obtain ⟨y1, r1, rfl, z1, la⟩ := z7.cons_iff.mp la
   obtain ⟨y2, r2, rfl, z2, la⟩ := z7.cons_iff.mp la
   cases z7.nil_iff.mp la
   refine ⟨a, _, rfl, ux A7.sf qa, rfl, _, _, rfl, _, _, rfl, rfl, ?_⟩
   refine ⟨_, rfl, p, dx, _, rfl, u1, Uo _ _ _ (by decide +kernel) (by decide +kernel) (by decide +kernel), _, rfl, _, rfl, ?_⟩
   refine ⟨p, dx, l, Hf7, hd, wd6, .int i, y, ms6, y1, y2, w3, rfl, A7, z1, z2, l1, fun H8 Hf8 c8 A8 => ?_⟩
   exact ⟨Hf8, w3.1, w3.2, _, _, rfl, A8, c7.trans A7 c8, (t6.trans gr7.f).trans c8.f, l2⟩
  ·rintro σ H6 Hf6 ⟨wd6, ms6, o1, o2, rfl, A6, c6, t6, lp⟩
   rw [List.drop_length] at lp
   cases lp
   obtain ⟨vh7, vw7, u1, u2, u3⟩ := A6.ob
   obtain ⟨xs, v1, v2⟩ := A6.li
   refine ⟨_, rfl, p, C, dx, _, _, rfl, u1, cl, nM, Mm _ _ _, ?_⟩
   have sm : yp Hf6 (upd Hf6 l (.lst xs)) := zY A6.nl
   refine k (.ref l) H6 (upd Hf6 l (.lst xs)) ⟨fun b o e => c6.k b o e (zL e np) (zL e nl0), c6.f.trans sm, fun b o e => ?_, fun b o e => ?_⟩ (Has.lst_iff.mpr ⟨l, xs, rfl, SqL.of zz, v2.mono sm⟩)
   ·by_cases hb : b = l
    ·subst hb
     rw [zz] at e
     cases e
     exact v1
    ·rw [zw hb] at e
     exact A6.sf b o e
   ·by_cases hb : b = l
    ·subst hb
     exact .inr (.inl nl0)
    ·rw [zw hb] at e
     exact c6.nw b o e
noncomputable def uj : FS := (yq (ifS (blF (zc ltD (vF 1) (z5 Zi (zb (vF 0) zB)))) (yY (zc ixD (vF 0) (vF 1))) nxF) (yY (cF (.int 0))))
noncomputable def zI : List D -> Option D := uv 2 uj
theorem Y6 : FnScope ["_law_script", "_law_k"] ["_law_script", "_law_k"] (ze xT) := ⟨rfl, rfl, rfl, by decide +kernel, rfl, by decide +kernel, by decide +kernel⟩
theorem Xl (Fn : Fun K "_law_cell_at" "_law_cell_at" xT f fd) (T : Txt K mg)  :
  FnOk P w K mg base CX0 1 f fd ["_law_script", "_law_k"] (spF K 2 zI) :=
 yu (k := 0) (m := 2) (F := uj) rfl rfl Fn Y6 fun cdv A outer s H E hr => (zf (y0 (Bc (DE.dr (dv 1)) (DE.dr (wD wy ql rfl T.len_b (by rfl) (zJ (DE.dr (dv 0)) yo)))) (zj (zD (xJ (DE.dr (dv 0)) (DE.dr (dv 1))))) zN) (zj (zD zk)))
noncomputable def YM : FS := (yq (ifS (blF (zc geD (vF 0) (zc Bz (cF (.int 10)) (cF (.int 12))))) (yq (y4 0 (zc Ga (zc wt (vF 0) (zc Bz (cF (.int 10)) (cF (.int 12)))) (cF (.int 1)))) (yq (Zj (W6 (zb (zc vZ (vF 1) (cF (.int 61))) zB)) (zQ 2) (y4 0 (zc wt (vF 0) (cF (.int 2147483648))))) (yY (zc vZ (vF 0) (cF (.int 2147483648)))))) nxF) (yq (y4 3 (zc vZ (zc uz (zc yJ (zc yJ (zc vZ (vF 0) (cF (.int 1000003))) (zc uz (zc uz (vF 1) (vF 1)) (cF (.int 7919)))) (vF 1)) (cF (.int 48271))) (cF (.int 2147483629)))) (yq (y4 3 (zc vZ (zc uz (vF 3) (vF 3)) (cF (.int 2147483587)))) (yY (zc wt (zc vZ (zc uz (vF 3) (zc yJ (vF 3) (cF (.int 2)))) (cF (.int 2147483579))) (cF (.int 7)))))))
noncomputable def yX : List D -> Option D := uv 4 YM
theorem uQ : FnScope ["_law_cell", "_law_k", "_law_turn", "_law_number"] ["_law_cell", "_law_k"] (ze ja) := ⟨rfl, rfl, rfl, by decide +kernel, rfl, by decide +kernel, by decide +kernel⟩
theorem Km (Fn : Fun K "_law_mix" "_law_mix" ja f fd) (T : Txt K mg)  :
  FnOk P w K mg base CX0 1 f fd ["_law_cell", "_law_k"] (spF K 2 yX) :=
 yu (k := 0) (m := 4) (F := YM) rfl rfl Fn uQ fun cdv A outer s H E hr => (zf (y0 (Bf (DE.dr (dv 0)) (DE.dr (Da (DE.dr zk) (DE.dr zk)))) (zf (zV 0 uQ.nd (KW (DE.dr (uw (DE.dr (dv 0)) (DE.dr (Da (DE.dr zk) (DE.dr zk))))) (DE.dr zk))) (zf (vf PassesOwn.never rfl (wx rfl T.range_b (zJ (DE.dr (wL (DE.dr (dv 1)) (DE.dr zk))) yo)) (ya 2 uQ.nd) (zj (zV 0 uQ.nd (uw (DE.dr (dv 0)) (DE.dr zk))))) (zj (zD (wL (DE.dr (dv 0)) (DE.dr zk)))))) zN) (zf (zV 3 uQ.nd (wL (DE.dr (uJ (DE.dr (zO (DE.dr (zO (DE.dr (wL (DE.dr (dv 0)) (DE.dr zk))) (DE.dr (uJ (DE.dr (uJ (DE.dr (dv 1)) (DE.dr (dv 1)))) (DE.dr zk))))) (DE.dr (dv 1)))) (DE.dr zk))) (DE.dr zk))) (zf (zV 3 uQ.nd (wL (DE.dr (uJ (DE.dr (dv 3)) (DE.dr (dv 3)))) (DE.dr zk))) (zj (zD (uw (DE.dr (wL (DE.dr (uJ (DE.dr (dv 3)) (DE.dr (zO (DE.dr (dv 3)) (DE.dr zk))))) (DE.dr zk))) (DE.dr zk)))))))
noncomputable def Zd : FS := (yY (BF (uB (Gz "int") (vF 0)) (Fh (uB (Gz "bool") (vF 0)))))
noncomputable def vd : List D -> Option D := uv 1 Zd
theorem VZ : FnScope ["_law_found"] ["_law_found"] (ze vO) := ⟨rfl, rfl, rfl, by decide +kernel, rfl, by decide +kernel, by decide +kernel⟩
theorem Ua (Fn : Fun K "_law_whole" "_law_whole" vO f fd) (T : Txt K mg)  :
  FnOk P w K mg base CX0 1 f fd ["_law_found"] (spF K 1 vd) :=
 yu (k := 0) (m := 1) (F := Zd) rfl rfl Fn VZ fun cdv A outer s H E hr => (zj (zD (K0 (Vx BJ (DE.dr (dv 0)) rfl T.isinstance_b rfl T.int_b) (KY (Fv (Vx GT (DE.dr (dv 0)) rfl T.isinstance_b rfl T.bool_b))))))
noncomputable def Ze : FS := (yq (y4 2 (zc yJ (cF (.int 1)) (zc vZ (z5 zI (zb (vF 0) (zb (cF (.int 0)) zB))) (vF 1)))) (yq (y4 3 (z5 yX (zb (z5 zI (zb (vF 0) (zb (cF (.int 0)) zB))) (zb (cF (.int 1)) zB)))) (yq (BE 4 (Xs zB)) (yq (Zj (W6 (zb (vF 2) zB)) (zQ 5) (Zj (Ce (zb (zc yJ (vF 5) (cF (.int 1))) (zb (vF 2) zB))) (zQ 6) (yq (y4 7 (z5 yX (zb (z5 zI (zb (vF 0) (zb (zc yJ (cF (.int 1)) (vF 5)) zB))) (zb (zc yJ (zc uz (cF (.int 10)) (vF 5)) (vF 6)) zB)))) (yq (y4 8 (zc ixD (y9 (Xs (zb (cF (.int 2)) (zb (cF (.int 3)) (zb (cF (.int 4)) (zb (cF (.int 5)) (zb (cF (.int 6)) (zb (cF (.int 0)) (zb (cF (.int 3)) (zb (cF (.int 2)) zB)))))))))) (zc vZ (vF 7) (cF (.int 8))))) (yq (ifS (blF (zc eqF (zc vZ (vF 3) (cF (.int 3))) (cF (.int 1)))) (yq (y4 8 (zc ixD (y9 (Xs (zb (cF (.int 2)) (zb (cF (.int 3)) zB)))) (z5 GA (zb (zc eqF (vF 6) (zc yJ (vF 5) (cF (.int 1)))) zB)))) (ifS (WI (blF (zc eqF (vF 6) (zc yJ (vF 5) (cF (.int 1))))) (WI (blF (zc eqF (zc vZ (zc wt (vF 3) (cF (.int 3))) (cF (.int 3))) (cF (.int 1)))) (blF (zc eqF (vF 6) (zc Ga (vF 2) (cF (.int 1))))))) (y4 8 (zc ixD (y9 (Xs (zb (cF (.int 4)) (zb (cF (.int 5)) zB)))) (zc vZ (zc wt (vF 3) (cF (.int 9))) (cF (.int 2))))) nxF)) nxF) (yq (ifS (WI (blF (zc eqF (zc vZ (vF 3) (cF (.int 3))) (cF (.int 2)))) (WI (blF (zc neF (vF 6) (zc yJ (vF 5) (cF (.int 1))))) (blF (zc gtD (zc vZ (zc wt (vF 7) (cF (.int 8))) (cF (.int 3))) (cF (.int 0)))))) (y4 8 (cF (.int 2))) nxF) (ifS (blF (zc neF (vF 8) (cF (.int 2)))) (uO 4 (tupF (zb (vF 5) (zb (vF 6) (zb (vF 8) zB))))) nxF))))))) (yq (ifS (blF (zc eqF (zc vZ (zc wt (vF 3) (cF (.int 27))) (cF (.int 2))) (cF (.int 1)))) (BE 4 (D3 (vR 4) (uB Ko (cF (.int 1))))) nxF) (C0 4 (yY (tupF (zb (vF 2) (zb (vF 4) zB))))))))))
noncomputable def ve : List D -> Option D := uv 9 Ze
theorem yG : FnScope ["_law_script", "_law_most", "_law_mirrors", "_law_kind", "_law_turns", "_law_i", "_law_j", "_law_drawn", "_law_m_here"] ["_law_script", "_law_most"] (ze vQ) := ⟨rfl, rfl, rfl, by decide +kernel, rfl, by decide +kernel, by decide +kernel⟩
theorem Uc (Fn : Fun K "_law_house" "_law_house" vQ f fd) (T : Txt K mg) (h_l_cell_at : HasFn P w K mg base 1 "_law_cell_at" 2 zI) (h_l_mix : HasFn P w K mg base 1 "_law_mix" 2 yX) :
  FnOk P w K mg base CX0 2 f fd ["_law_script", "_law_most"] (spF K 2 ve) :=
 yu (k := 1) (m := 9) (F := Ze) rfl rfl Fn yG fun cdv A outer s H E hr => (zf (zV 2 yG.nd (zO (DE.dr zk) (DE.dr (wL (DE.dr (zr h_l_cell_at (hr.mono (by decide)) rfl (za (dv 0) (za zk zp)) (zq (zq yb)))) (DE.dr (dv 1)))))) (zf (zV 3 yG.nd (zr h_l_mix (hr.mono (by decide)) rfl (za (zr h_l_cell_at (hr.mono (by decide)) rfl (za (dv 0) (za zk zp)) (zq (zq yb))) (za zk zp)) (zq (zq yb)))) (zf (Yw 4 yG.nd (jM zp)) (zf (vf PassesOwn.never rfl (wx rfl T.range_b (zJ (DE.dr (dv 2)) yo)) (ya 5 yG.nd) (zj (vf PassesOwn.never rfl (XI rfl T.range_b (zJ (DE.dr (zO (DE.dr (dv 5)) (DE.dr zk))) (zJ (DE.dr (dv 2)) yo))) (ya 6 yG.nd) (zf (zV 7 yG.nd (zr h_l_mix (hr.mono (by decide)) rfl (za (zr h_l_cell_at (hr.mono (by decide)) rfl (za (dv 0) (za (zO (DE.dr zk) (DE.dr (dv 5))) zp)) (zq (zq yb))) (za (zO (DE.dr (uJ (DE.dr zk) (DE.dr (dv 5)))) (DE.dr (dv 6))) zp)) (zq (zq yb)))) (zf (zV 8 yG.nd (by refine xJ ?a ?b; (case b => exact (DE.dr (wL (DE.dr (dv 7)) (DE.dr zk)))); (case a => refine DE.dr ?u; (case u => refine DN.de ?c; (case c => exact (by refine jM ?l0; (case l0 => refine za ?e0 ?l1; (case e0 => exact zk); (case l1 => refine za ?e1 ?l2; (case e1 => exact zk); (case l2 => refine za ?e2 ?l3; (case e2 => exact zk); (case l3 => refine za ?e3 ?l4; (case e3 => exact zk); (case l4 => refine za ?e4 ?l5; (case e4 => exact zk); (case l5 => refine za ?e5 ?l6; (case e5 => exact zk); (case l6 => refine za ?e6 ?l7; (case e6 => exact zk); (case l7 => refine za ?e7 ?l8; (case e7 => exact zk); (case l8 => exact zp))))))))))))))) (zf (y0 (vn hr (DE.dr (wL (DE.dr (dv 3)) (DE.dr zk))) (DE.dr zk)) (zf (zV 8 yG.nd (xJ (DE.dr (DN.de (jM (za zk (za zk zp))))) (DE.dr (uX XU Jc rfl T.int_b (by rfl) (zJ (DE.dr (BD hr (DE.dr (dv 6)) (DE.dr (zO (DE.dr (dv 5)) (DE.dr zk))))) yo))))) (zj (y0 (DW.dt (kR (vn hr (DE.dr (dv 6)) (DE.dr (zO (DE.dr (dv 5)) (DE.dr zk)))) (kR (vn hr (DE.dr (wL (DE.dr (uw (DE.dr (dv 3)) (DE.dr zk))) (DE.dr zk))) (DE.dr zk)) (kQ (vn hr (DE.dr (dv 6)) (DE.dr (KW (DE.dr (dv 2)) (DE.dr zk)))))))) (zj (zV 8 yG.nd (xJ (DE.dr (DN.de (jM (za zk (za zk zp))))) (DE.dr (wL (DE.dr (uw (DE.dr (dv 3)) (DE.dr zk))) (DE.dr zk)))))) zN))) zN) (zf (y0 (DW.dt (kR (vn hr (DE.dr (wL (DE.dr (dv 3)) (DE.dr zk))) (DE.dr zk)) (kR (Yv hr (DE.dr (dv 6)) (DE.dr (zO (DE.dr (dv 5)) (DE.dr zk)))) (kQ (Be (DE.dr (wL (DE.dr (uw (DE.dr (dv 7)) (DE.dr zk))) (DE.dr zk))) (DE.dr zk)))))) (zj (zV 8 yG.nd zk)) zN) (zj (y0 (Yv hr (DE.dr (dv 8)) (DE.dr zk)) (zj (kS 4 (vo (za (dv 5) (za (dv 6) (za (dv 8) zp)))))) zN))))))))) (zf (y0 (vn hr (DE.dr (wL (DE.dr (uw (DE.dr (dv 3)) (DE.dr zk))) (DE.dr zk))) (DE.dr zk)) (zj (Yw 4 yG.nd (C7 (dvr 4) (DE.dr (YA (DE.dr zk)))))) zN) (Ji 4 (zj (zD (vo (za (dv 2) (za (dv 4) zp)))))))))))
noncomputable def j5 : FS := (yq (y4 4 (z5 yX (zb (z5 zI (zb (vF 0) (zb (vF 2) zB))) (zb (cF (.int 60)) zB)))) (yq (ifS (blF (zc eqF (zc vZ (vF 4) (cF (.int 3))) (cF (.int 1)))) (y4 3 (zc vZ (zc wt (vF 4) (cF (.int 3))) (zc yJ (vF 3) (cF (.int 1))))) nxF) (yq (y4 5 (tupF zB)) (yq (Zj (W6 (zb (vF 3) zB)) (zQ 6) (y4 5 (zc yJ (vF 5) (tupF (zb (zc vZ (z5 yX (zb (z5 zI (zb (vF 0) (zb (zc yJ (vF 2) (vF 6)) zB))) (zb (zc yJ (zc uz (cF (.int 7)) (vF 6)) (cF (.int 3))) zB))) (zc ixD (vF 1) (cF (.int 0)))) zB))))) (yY (vF 5))))))
noncomputable def vv : List D -> Option D := uv 7 j5
theorem vK : FnScope ["_law_script", "_law_house_here", "_law_first", "_law_many", "_law_drawn", "_law_word_here", "_law_k"] ["_law_script", "_law_house_here", "_law_first", "_law_many"] (ze uT) := ⟨rfl, rfl, rfl, by decide +kernel, rfl, by decide +kernel, by decide +kernel⟩
theorem Qx (Fn : Fun K "_law_word" "_law_word" uT f fd) (T : Txt K mg) (h_l_cell_at : HasFn P w K mg base 1 "_law_cell_at" 2 zI) (h_l_mix : HasFn P w K mg base 1 "_law_mix" 2 yX) :
  FnOk P w K mg base CX0 2 f fd ["_law_script", "_law_house_here", "_law_first", "_law_many"] (spF K 4 vv) :=
 yu (k := 1) (m := 7) (F := j5) rfl rfl Fn vK fun cdv A outer s H E hr => (zf (zV 4 vK.nd (zr h_l_mix (hr.mono (by decide)) rfl (za (zr h_l_cell_at (hr.mono (by decide)) rfl (za (dv 0) (za (dv 2) zp)) (zq (zq yb))) (za zk zp)) (zq (zq yb)))) (zf (y0 (vn hr (DE.dr (wL (DE.dr (dv 4)) (DE.dr zk))) (DE.dr zk)) (zj (zV 3 vK.nd (wL (DE.dr (uw (DE.dr (dv 4)) (DE.dr zk))) (DE.dr (zO (DE.dr (dv 3)) (DE.dr zk)))))) zN) (zf (zV 5 vK.nd (vo zp)) (zf (vf PassesOwn.never rfl (wx rfl T.range_b (zJ (DE.dr (dv 3)) yo)) (ya 6 vK.nd) (zj (zV 5 vK.nd (zO (DE.dr (dv 5)) (DE.dr (vo (za (wL (DE.dr (zr h_l_mix (hr.mono (by decide)) rfl (za (zr h_l_cell_at (hr.mono (by decide)) rfl (za (dv 0) (za (zO (DE.dr (dv 2)) (DE.dr (dv 6))) zp)) (zq (zq yb))) (za (zO (DE.dr (uJ (DE.dr zk) (DE.dr (dv 6)))) (DE.dr zk)) zp)) (zq (zq yb)))) (DE.dr (xJ (DE.dr (dv 1)) (DE.dr zk)))) zp))))))) (zj (zD (dv 5)))))))
noncomputable def Bx : FS := (yq (Zj (yj (zc ixD (vF 0) (cF (.int 1)))) (Zs 3 (y7 (zQ 3) (y7 (zQ 4) (y7 (zQ 5) YO)))) (ifS (blF (zc eqF (tupF (zb (vF 3) (zb (vF 4) zB))) (tupF (zb (z5 BA (zb (vF 1) (zb (vF 2) zB))) (zb (z5 BB (zb (vF 1) (zb (vF 2) zB))) zB))))) (yY (vF 5)) nxF)) (yY (cF (.int 2))))
noncomputable def Xy : List D -> Option D := uv 6 Bx
theorem W0 : FnScope ["_law_house_here", "_law_i", "_law_j", "_law_one", "_law_other", "_law_m_here"] ["_law_house_here", "_law_i", "_law_j"] (ze V2) := ⟨rfl, rfl, rfl, by decide +kernel, rfl, by decide +kernel, by decide +kernel⟩
theorem CJ (Fn : Fun K "_law_m" "_law_m" V2 f fd) (T : Txt K mg)  :
  FnOk P w K mg base CX0 1 f fd ["_law_house_here", "_law_i", "_law_j"] (spF K 3 Xy) :=
 yu (k := 0) (m := 6) (F := Bx) rfl rfl Fn W0 fun cdv A outer s H E hr => (zf (vf PassesOwn.never rfl (jN (xJ (DE.dr (dv 0)) (DE.dr zk))) (kU rfl (yS (ya 3 W0.nd) (yS (ya 4 W0.nd) (yS (ya 5 W0.nd) qq)))) (zj (y0 (vn hr (DE.dr (vo (za (dv 3) (za (dv 4) zp)))) (DE.dr (vo (za (wD (XQ rfl) Ja rfl T.min_b (by rfl) (zJ (DE.dr (dv 1)) (zJ (DE.dr (dv 2)) yo))) (za (wD (XR rfl) Jb rfl T.max_b (by rfl) (zJ (DE.dr (dv 1)) (zJ (DE.dr (dv 2)) yo))) zp))))) (zj (zD (dv 5))) zN))) (zj (zD zk)))
noncomputable def xl : FS := (yq (y4 3 (zc ixD (vF 2) (cF (.int 1)))) (yq (ifS (orT (blF (zc ltD (vF 3) (cF (.int 0)))) (blF (zc geD (vF 3) (z5 Zi (zb (vF 1) zB))))) (yY (cF .non)) nxF) (yq (ifS (blF (zc eqF (zc ixD (vF 2) (cF (.int 0))) (cF (.str "drop")))) (yq (ifS (blF (zc neF (yg (vF 1) (exP (vF 3)) (exP (zc yJ (vF 3) (cF (.int 1))))) (yg (vF 1) (exP (zc yJ (vF 3) (cF (.int 1)))) (exP (zc yJ (vF 3) (cF (.int 2))))))) (yY (cF .non)) nxF) (yY (zc yJ (yg (vF 1) noP (exP (vF 3))) (yg (vF 1) (exP (zc yJ (vF 3) (cF (.int 2)))) noP)))) nxF) (yq (y4 4 (zc ixD (vF 2) (cF (.int 2)))) (yq (y4 5 (zc ixD (vF 2) (cF (.int 3)))) (yq (ifS (orT (blF (zc eqF (vF 4) (vF 5))) (orT (Wq (blF (uM leD ltD (cF (.int 0)) (vF 4) (zc ixD (vF 0) (cF (.int 0)))))) (orT (Wq (blF (uM leD ltD (cF (.int 0)) (vF 5) (zc ixD (vF 0) (cF (.int 0)))))) (blF (zc eqF (z5 Xy (zb (vF 0) (zb (vF 4) (zb (vF 5) zB)))) (cF (.int 0))))))) (yY (cF .non)) nxF) (yq (y4 6 (z5 Xy (zb (vF 0) (zb (vF 4) (zb (vF 5) zB))))) (yq (ifS (blF (zc neF (yg (vF 1) (exP (vF 3)) (exP (zc yJ (vF 3) (vF 6)))) (yg (zc Kp (tupF (zb (vF 4) (zb (vF 5) zB))) (vF 6)) noP (exP (vF 6))))) (yY (cF .non)) nxF) (yY (zc yJ (zc yJ (yg (vF 1) noP (exP (vF 3))) (yg (zc Kp (tupF (zb (vF 5) (zb (vF 4) zB))) (vF 6)) noP (exP (vF 6)))) (yg (vF 1) (exP (zc yJ (vF 3) (vF 6))) noP)))))))))))
noncomputable def ym : List D -> Option D := uv 7 xl
theorem vL : FnScope ["_law_house_here", "_law_word_here", "_law_move", "_law_at", "_law_i", "_law_j", "_law_many"] ["_law_house_here", "_law_word_here", "_law_move"] (ze vP) := ⟨rfl, rfl, rfl, by decide +kernel, rfl, by decide +kernel, by decide +kernel⟩
theorem Ub (Fn : Fun K "_law_moved" "_law_moved" vP f fd) (T : Txt K mg) (h_l_m : HasFn P w K mg base 1 "_law_m" 3 Xy) :
  FnOk P w K mg base CX0 2 f fd ["_law_house_here", "_law_word_here", "_law_move"] (spF K 3 ym) :=
 yu (k := 1) (m := 7) (F := xl) rfl rfl Fn vL fun cdv A outer s H E hr => (zf (zV 3 vL.nd (xJ (DE.dr (dv 2)) (DE.dr zk))) (zf (y0 (DW.dt (Yu (Bc (DE.dr (dv 3)) (DE.dr zk)) (ZM (Bf (DE.dr (dv 3)) (DE.dr (wD wy ql rfl T.len_b (by rfl) (zJ (DE.dr (dv 1)) yo))))))) (zj (zD vg)) zN) (zf (y0 (vn hr (DE.dr (xJ (DE.dr (dv 2)) (DE.dr zk))) (DE.dr Jl)) (zf (y0 (Yv hr (DE.dr (yF (DE.dr (dv 1)) (wu (DE.dr (dv 3))) (wu (DE.dr (zO (DE.dr (dv 3)) (DE.dr zk)))))) (DE.dr (yF (DE.dr (dv 1)) (wu (DE.dr (zO (DE.dr (dv 3)) (DE.dr zk)))) (wu (DE.dr (zO (DE.dr (dv 3)) (DE.dr zk))))))) (zj (zD vg)) zN) (zj (zD (zO (DE.dr (yF (DE.dr (dv 1)) uA (wu (DE.dr (dv 3))))) (DE.dr (yF (DE.dr (dv 1)) (wu (DE.dr (zO (DE.dr (dv 3)) (DE.dr zk)))) uA)))))) zN) (zf (zV 4 vL.nd (xJ (DE.dr (dv 2)) (DE.dr zk))) (zf (zV 5 vL.nd (xJ (DE.dr (dv 2)) (DE.dr zk))) (zf (y0 (DW.dt (Yu (vn hr (DE.dr (dv 4)) (DE.dr (dv 5))) (Yu (qM (j3 Qo V6 Xk ZF (DE.dr zk) (DE.dr (dv 4)) (DE.dr (xJ (DE.dr (dv 0)) (DE.dr zk))))) (Yu (qM (j3 Qo V6 Xk ZF (DE.dr zk) (DE.dr (dv 5)) (DE.dr (xJ (DE.dr (dv 0)) (DE.dr zk))))) (ZM (vn hr (DE.dr (zr h_l_m (hr.mono (by decide)) rfl (za (dv 0) (za (dv 4) (za (dv 5) zp))) (zq (zq (zq yb))))) (DE.dr zk))))))) (zj (zD vg)) zN) (zf (zV 6 vL.nd (zr h_l_m (hr.mono (by decide)) rfl (za (dv 0) (za (dv 4) (za (dv 5) zp))) (zq (zq (zq yb))))) (zf (y0 (Yv hr (DE.dr (yF (DE.dr (dv 1)) (wu (DE.dr (dv 3))) (wu (DE.dr (zO (DE.dr (dv 3)) (DE.dr (dv 6))))))) (DE.dr (yF (DE.dr (GK (DE.dr (vo (za (dv 4) (za (dv 5) zp)))) (DE.dr (dv 6)))) uA (wu (DE.dr (dv 6)))))) (zj (zD vg)) zN) (zj (zD (zO (DE.dr (zO (DE.dr (yF (DE.dr (dv 1)) uA (wu (DE.dr (dv 3))))) (DE.dr (yF (DE.dr (GK (DE.dr (vo (za (dv 5) (za (dv 4) zp)))) (DE.dr (dv 6)))) uA (wu (DE.dr (dv 6))))))) (DE.dr (yF (DE.dr (dv 1)) (wu (DE.dr (zO (DE.dr (dv 3)) (DE.dr (dv 6))))) uA)))))))))))))
noncomputable def ju : FS := (yq (ifS (Wq (blF (uB (Gz "list") (vF 2)))) (yY (cF .non)) nxF) (yq (Zj (yj (vF 2)) (zQ 3) (yq (ifS (orT (Wq (blF (uB (Gz "tuple") (vF 3)))) (blF (zc neF (z5 Zi (zb (vF 3) zB)) (zc yJ (cF (.int 2)) (zc uz (cF (.int 2)) (z5 GA (zb (zc eqF (yg (vF 3) noP (exP (cF (.int 1)))) (tupF (zb (cF (.str "turn")) zB))) zB))))))) (yY (cF .non)) nxF) (yq (ifS (blF (zc (inD true) (zc ixD (vF 3) (cF (.int 0))) (y9 (Xs (zb (cF (.str "drop")) (zb (cF (.str "turn")) zB)))))) (yY (cF .non)) nxF) (yq (Zj (yj (yg (vF 3) (exP (cF (.int 1))) noP)) (zQ 4) (ifS (Wq (blF (z5 vd (zb (vF 4) zB)))) (yY (cF .non)) nxF)) (yq (y4 1 (z5 ym (zb (vF 0) (zb (vF 1) (zb (vF 3) zB))))) (ifS (blF (zc (isD false) (vF 1) (cF .non))) (yY (cF .non)) nxF)))))) (yY (vF 1))))
noncomputable def xp : List D -> Option D := uv 5 ju
theorem ub : FnScope ["_law_house_here", "_law_word_here", "_law_paper", "_law_move", "_law_number"] ["_law_house_here", "_law_word_here", "_law_paper"] (ze wV) := ⟨rfl, rfl, rfl, by decide +kernel, rfl, by decide +kernel, by decide +kernel⟩
theorem Wl (Fn : Fun K "_law_walked" "_law_walked" wV f fd) (T : Txt K mg) (h_l_moved : HasFn P w K mg base 2 "_law_moved" 3 ym) (h_l_whole : HasFn P w K mg base 1 "_law_whole" 1 vd) :
  FnOk P w K mg base CX0 3 f fd ["_law_house_here", "_law_word_here", "_law_paper"] (spF K 3 xp) :=
 yu (k := 2) (m := 5) (F := ju) rfl rfl Fn ub fun cdv A outer s H E hr => (zf (y0 (qM (ZN (DE.dr (Vx GR (DE.dr (dv 2)) rfl T.isinstance_b rfl T.list_b)))) (zj (zD vg)) zN) (zf (vf PassesOwn.never rfl (jN (dv 2)) (ya 3 ub.nd) (zf (y0 (DW.dt (Yu (qM (ZN (DE.dr (Vx JK (DE.dr (dv 3)) rfl T.isinstance_b rfl T.tuple_b)))) (ZM (Yv hr (DE.dr (wD wy ql rfl T.len_b (by rfl) (zJ (DE.dr (dv 3)) yo))) (DE.dr (zO (DE.dr zk) (DE.dr (uJ (DE.dr zk) (DE.dr (uX XU Jc rfl T.int_b (by rfl) (zJ (DE.dr (BD hr (DE.dr (yF (DE.dr (dv 3)) uA (wu (DE.dr zk)))) (DE.dr (vo (za Jl zp))))) yo))))))))))) (zj (zD vg)) zN) (zf (y0 (KN hr (DE.dr (xJ (DE.dr (dv 3)) (DE.dr zk))) (DE.dr (DN.de (jM (za Jl (za Jl zp)))))) (zj (zD vg)) zN) (zf (vf PassesOwn.never rfl (jN (yF (DE.dr (dv 3)) (wu (DE.dr zk)) uA)) (ya 4 ub.nd) (zj (y0 (qM (ZN (DE.dr (zr h_l_whole (hr.mono (by decide)) rfl (za (dv 4) zp) (zq yb))))) (zj (zD vg)) zN))) (zf (zV 1 ub.nd (zr h_l_moved (hr.mono (by decide)) rfl (za (dv 0) (za (dv 1) (za (dv 3) zp))) (zq (zq (zq yb))))) (zj (y0 (Bd (DE.dr (dv 1)) (DE.dr vg)) (zj (zD vg)) zN))))))) (zj (zD (dv 1)))))
noncomputable def Bw : FS := (yq (y4 1 (z5 ve (zb (vF 0) (zb (cF (.int 4)) zB)))) (yq (y4 2 (z5 vv (zb (vF 0) (zb (vF 1) (zb (cF (.int 5)) (zb (cF (.int 6)) zB)))))) (yq (y4 3 (vF 2)) (yq (Zj (W6 (zb (zc yJ (cF (.int 1)) (zc vZ (z5 zI (zb (vF 0) (zb (cF (.int 4)) zB))) (cF (.int 2)))) zB)) (zQ 4) (yq (y4 5 (z5 yX (zb (z5 zI (zb (vF 0) (zb (zc yJ (cF (.int 12)) (vF 4)) zB))) (zb (zc yJ (cF (.int 30)) (vF 4)) zB)))) (yq (y4 6 (zc vZ (vF 5) (zc yJ (z5 Zi (zb (vF 3) zB)) (cF (.int 1))))) (yq (y4 7 (zc vZ (zc wt (vF 5) (cF (.int 64))) (zc ixD (vF 1) (cF (.int 0))))) (yq (ifS (blF (zc eqF (zc vZ (zc wt (vF 5) (cF (.int 512))) (cF (.int 3))) (cF (.int 0)))) (y4 3 (zc yJ (zc yJ (yg (vF 3) noP (exP (vF 6))) (tupF (zb (vF 7) (zb (vF 7) zB)))) (yg (vF 3) (exP (vF 6)) noP))) nxF) (yq (ifS (blF (zc eqF (zc vZ (zc wt (vF 5) (cF (.int 512))) (cF (.int 3))) (cF (.int 1)))) (y4 3 (zc yJ (zc yJ (yg (vF 3) noP (exP (vF 6))) (tupF (zb (vF 7) zB))) (yg (vF 3) (exP (zc yJ (vF 6) (cF (.int 1)))) noP))) nxF) (Zj (W6 (zb (z5 Zi (zb (vF 3) zB)) zB)) (zQ 6) (yq (y4 8 (cF .non)) (yq (ifS (blF (zc neF (vF 7) (zc ixD (vF 3) (vF 6)))) (y4 8 (z5 ym (zb (vF 1) (zb (vF 3) (zb (tupF (zb (cF (.str "turn")) (zb (vF 6) (zb (zc ixD (vF 3) (vF 6)) (zb (vF 7) zB))))) zB))))) nxF) (ifS (WI (blF (zc (isD true) (vF 8) (cF .non))) (blF (zc eqF (zc vZ (zc wt (vF 5) (cF (.int 512))) (cF (.int 3))) (cF (.int 2))))) (y4 3 (vF 8)) nxF)))))))))) (yq (y4 9 (y9 (u4 1 [1] (yj (y9 (Xs (zb (vF 2) (zb (vF 3) zB))))) (zQ 0) ttF (z5 xp (zb (vF 1) (zb (vF 0) (zb (z5 w4 (zb (vF 1) (zb (vF 0) zB))) zB))))))) (yq (ifS (orT (blF (zc (isD false) (zc ixD (vF 9) (cF (.int 0))) (cF .non))) (blF (zc (isD false) (zc ixD (vF 9) (cF (.int 1))) (cF .non)))) (yY (cF (.bl false))) nxF) (yY (BF (zc eqF (z5 kJ (zb (vF 1) (zb (vF 2) (zb (vF 3) zB)))) (zc eqF (zc ixD (vF 9) (cF (.int 0))) (zc ixD (vF 9) (cF (.int 1))))) (zc eqF (z5 kJ (zb (vF 1) (zb (vF 3) (zb (vF 2) zB)))) (zc eqF (zc ixD (vF 9) (cF (.int 0))) (zc ixD (vF 9) (cF (.int 1)))))))))))))
noncomputable def g_law : List D -> Option D := uv 10 Bw
theorem w9 : FnScope ["_law_script", "_law_house_here", "_law_one", "_law_other", "_law_k", "_law_drawn", "_law_at", "_law_i", "_law_here", "_law_ends"] ["_law_script"] (ze Z8) := ⟨rfl, rfl, rfl, by decide +kernel, rfl, by decide +kernel, by decide +kernel⟩
theorem CI (Fn : Fun K "law" "law" Z8 f fd) (T : Txt K mg) (h_l_cell_at : HasFn P w K mg base 1 "_law_cell_at" 2 zI) (h_l_house : HasFn P w K mg base 2 "_law_house" 2 ve) (h_l_mix : HasFn P w K mg base 1 "_law_mix" 2 yX) (h_l_moved : HasFn P w K mg base 2 "_law_moved" 3 ym) (h_l_walked : HasFn P w K mg base 3 "_law_walked" 3 xp) (h_l_word : HasFn P w K mg base 2 "_law_word" 4 vv) (h_same : HasFn P w K mg base 7 "same" 3 kJ) (h_to_least : HasFn P w K mg base 24 "to_least" 2 w4) :
  FnOk P w K mg base CX0 25 f fd ["_law_script"] (spF K 1 g_law) :=
 yu (k := 24) (m := 10) (F := Bw) rfl rfl Fn w9 fun cdv A outer s H E hr => (zf (zV 1 w9.nd (zr h_l_house (hr.mono (by decide)) rfl (za (dv 0) (za zk zp)) (zq (zq yb)))) (zf (zV 2 w9.nd (zr h_l_word (hr.mono (by decide)) rfl (za (dv 0) (za (dv 1) (za zk (za zk zp)))) (zq (zq (zq (zq yb)))))) (zf (zV 3 w9.nd (dv 2)) (zf (vf PassesOwn.never rfl (wx rfl T.range_b (zJ (DE.dr (zO (DE.dr zk) (DE.dr (wL (DE.dr (zr h_l_cell_at (hr.mono (by decide)) rfl (za (dv 0) (za zk zp)) (zq (zq yb)))) (DE.dr zk))))) yo)) (ya 4 w9.nd) (zf (zV 5 w9.nd (zr h_l_mix (hr.mono (by decide)) rfl (za (zr h_l_cell_at (hr.mono (by decide)) rfl (za (dv 0) (za (zO (DE.dr zk) (DE.dr (dv 4))) zp)) (zq (zq yb))) (za (zO (DE.dr zk) (DE.dr (dv 4))) zp)) (zq (zq yb)))) (zf (zV 6 w9.nd (wL (DE.dr (dv 5)) (DE.dr (zO (DE.dr (wD wy ql rfl T.len_b (by rfl) (zJ (DE.dr (dv 3)) yo))) (DE.dr zk))))) (zf (zV 7 w9.nd (wL (DE.dr (uw (DE.dr (dv 5)) (DE.dr zk))) (DE.dr (xJ (DE.dr (dv 1)) (DE.dr zk))))) (zf (y0 (vn hr (DE.dr (wL (DE.dr (uw (DE.dr (dv 5)) (DE.dr zk))) (DE.dr zk))) (DE.dr zk)) (zj (zV 3 w9.nd (zO (DE.dr (zO (DE.dr (yF (DE.dr (dv 3)) uA (wu (DE.dr (dv 6))))) (DE.dr (vo (za (dv 7) (za (dv 7) zp)))))) (DE.dr (yF (DE.dr (dv 3)) (wu (DE.dr (dv 6))) uA))))) zN) (zf (y0 (vn hr (DE.dr (wL (DE.dr (uw (DE.dr (dv 5)) (DE.dr zk))) (DE.dr zk))) (DE.dr zk)) (zj (zV 3 w9.nd (zO (DE.dr (zO (DE.dr (yF (DE.dr (dv 3)) uA (wu (DE.dr (dv 6))))) (DE.dr (vo (za (dv 7) zp))))) (DE.dr (yF (DE.dr (dv 3)) (wu (DE.dr (zO (DE.dr (dv 6)) (DE.dr zk)))) uA))))) zN) (zj (vf PassesOwn.never rfl (wx rfl T.range_b (zJ (DE.dr (wD wy ql rfl T.len_b (by rfl) (zJ (DE.dr (dv 3)) yo))) yo)) (ya 6 w9.nd) (zf (zV 8 w9.nd vg) (zf (y0 (Yv hr (DE.dr (dv 7)) (DE.dr (xJ (DE.dr (dv 3)) (DE.dr (dv 6))))) (zj (zV 8 w9.nd (zr h_l_moved (hr.mono (by decide)) rfl (za (dv 1) (za (dv 3) (za (vo (za Jl (za (dv 6) (za (xJ (DE.dr (dv 3)) (DE.dr (dv 6))) (za (dv 7) zp))))) zp))) (zq (zq (zq yb)))))) zN) (zj (y0 (DW.dt (kR (Vw (DE.dr (dv 8)) (DE.dr vg)) (kQ (vn hr (DE.dr (wL (DE.dr (uw (DE.dr (dv 5)) (DE.dr zk))) (DE.dr zk))) (DE.dr zk))))) (zj (zV 3 w9.nd (dv 8))) zN)))))))))))) (zf (jk 9 w9.nd (own := ["_law_word_here"]) (frees := ["_law_house_here"]) (caps := [1]) rfl (.of (by kernel_rfl)) rfl vE (jN (DN.de (jM (za (dv 2) (za (dv 3) zp))))) (fun cl C s H fp => ⟨(ya 0 (show List.Nodup (["_law_word_here", "_law_house_here"] : List Str) from by decide +kernel)), jL, (zr h_l_walked (hr.mono (by decide)) rfl (za (dv 1) (za (dv 0) (za (zr h_to_least (hr.mono (by decide)) rfl (za (dv 1) (za (dv 0) zp)) (zq (zq yb))) zp))) (zq (zq (zq yb))))⟩)) (zf (y0 (DW.dt (Yu (Bd (DE.dr (xJ (DE.dr (dv 9)) (DE.dr zk))) (DE.dr vg)) (ZM (Bd (DE.dr (xJ (DE.dr (dv 9)) (DE.dr zk))) (DE.dr vg))))) (zj (zD MQ)) zN) (zj (zD (K0 (BD hr (DE.dr (zr h_same (hr.mono (by decide)) rfl (za (dv 1) (za (dv 2) (za (dv 3) zp))) (zq (zq (zq yb))))) (DE.dr (BD hr (DE.dr (xJ (DE.dr (dv 9)) (DE.dr zk))) (DE.dr (xJ (DE.dr (dv 9)) (DE.dr zk)))))) (KY (BD hr (DE.dr (zr h_same (hr.mono (by decide)) rfl (za (dv 1) (za (dv 3) (za (dv 2) zp))) (zq (zq (zq yb))))) (DE.dr (BD hr (DE.dr (xJ (DE.dr (dv 9)) (DE.dr zk))) (DE.dr (xJ (DE.dr (dv 9)) (DE.dr zk))))))))))))))))
end
theorem all_mk {l : W.OpenLaw} {w : World} {K : W.Frag} {h : Heap} {mg : Str -> Option Value} {fa : Addr} (X : K.In h) (G : h.Ns mainGlobals mg) (hfa : mg "law" = some (.ref fa))
  {f0 : Addr} {oc0 : Value} {od0 an0 : Option Addr} {osl0 : Array (Option Value)} {kV0 doc0 pm0 cdv0 ct0 : Value}
  {f1 : Addr} {oc1 : Value} {od1 an1 : Option Addr} {osl1 : Array (Option Value)} {kV1 doc1 pm1 cdv1 ct1 : Value}
  {f2 : Addr} {oc2 : Value} {od2 an2 : Option Addr} {osl2 : Array (Option Value)} {kV2 doc2 pm2 cdv2 ct2 : Value}
  {f3 : Addr} {oc3 : Value} {od3 an3 : Option Addr} {osl3 : Array (Option Value)} {kV3 doc3 pm3 cdv3 ct3 : Value}
  {f4 : Addr} {oc4 : Value} {od4 an4 : Option Addr} {osl4 : Array (Option Value)} {kV4 doc4 pm4 cdv4 ct4 : Value}
  {f5 : Addr} {oc5 : Value} {od5 an5 : Option Addr} {osl5 : Array (Option Value)} {kV5 doc5 pm5 cdv5 ct5 : Value}
  {f6 : Addr} {oc6 : Value} {od6 an6 : Option Addr} {osl6 : Array (Option Value)} {kV6 doc6 pm6 cdv6 ct6 : Value}
  {f7 : Addr} {oc7 : Value} {od7 an7 : Option Addr} {osl7 : Array (Option Value)} {kV7 doc7 pm7 cdv7 ct7 : Value}
  {f8 : Addr} {oc8 : Value} {od8 an8 : Option Addr} {osl8 : Array (Option Value)} {kV8 doc8 pm8 cdv8 ct8 : Value}
  {f9 : Addr} {oc9 : Value} {od9 an9 : Option Addr} {osl9 : Array (Option Value)} {kV9 doc9 pm9 cdv9 ct9 : Value}
  {f10 : Addr} {oc10 : Value} {od10 an10 : Option Addr} {osl10 : Array (Option Value)} {kV10 doc10 pm10 cdv10 ct10 : Value}
  {f11 : Addr} {oc11 : Value} {od11 an11 : Option Addr} {osl11 : Array (Option Value)} {kV11 doc11 pm11 cdv11 ct11 : Value}
  {f12 : Addr} {oc12 : Value} {od12 an12 : Option Addr} {osl12 : Array (Option Value)} {kV12 doc12 pm12 cdv12 ct12 : Value}
  {f13 : Addr} {oc13 : Value} {od13 an13 : Option Addr} {osl13 : Array (Option Value)} {kV13 doc13 pm13 cdv13 ct13 : Value}
  {f14 : Addr} {oc14 : Value} {od14 an14 : Option Addr} {osl14 : Array (Option Value)} {kV14 doc14 pm14 cdv14 ct14 : Value}
  {f15 : Addr} {oc15 : Value} {od15 an15 : Option Addr} {osl15 : Array (Option Value)} {kV15 doc15 pm15 cdv15 ct15 : Value}
  {f16 : Addr} {oc16 : Value} {od16 an16 : Option Addr} {osl16 : Array (Option Value)} {kV16 doc16 pm16 cdv16 ct16 : Value}
  {f17 : Addr} {oc17 : Value} {od17 an17 : Option Addr} {osl17 : Array (Option Value)} {kV17 doc17 pm17 cdv17 ct17 : Value}
  {f18 : Addr} {oc18 : Value} {od18 an18 : Option Addr} {osl18 : Array (Option Value)} {kV18 doc18 pm18 cdv18 ct18 : Value}
  {f19 : Addr} {oc19 : Value} {od19 an19 : Option Addr} {osl19 : Array (Option Value)} {kV19 doc19 pm19 cdv19 ct19 : Value}
  {f20 : Addr} {oc20 : Value} {od20 an20 : Option Addr} {osl20 : Array (Option Value)} {kV20 doc20 pm20 cdv20 ct20 : Value}
  {f21 : Addr} {oc21 : Value} {od21 an21 : Option Addr} {osl21 : Array (Option Value)} {kV21 doc21 pm21 cdv21 ct21 : Value}
  {f22 : Addr} {oc22 : Value} {od22 an22 : Option Addr} {osl22 : Array (Option Value)} {kV22 doc22 pm22 cdv22 ct22 : Value}
  {f23 : Addr} {oc23 : Value} {od23 an23 : Option Addr} {osl23 : Array (Option Value)} {kV23 doc23 pm23 cdv23 ct23 : Value}
  {f24 : Addr} {oc24 : Value} {od24 an24 : Option Addr} {osl24 : Array (Option Value)} {kV24 doc24 pm24 cdv24 ct24 : Value}
  {f25 : Addr} {oc25 : Value} {od25 an25 : Option Addr} {osl25 : Array (Option Value)} {kV25 doc25 pm25 cdv25 ct25 : Value}
  {f26 : Addr} {oc26 : Value} {od26 an26 : Option Addr} {osl26 : Array (Option Value)} {kV26 doc26 pm26 cdv26 ct26 : Value}
  {f27 : Addr} {oc27 : Value} {od27 an27 : Option Addr} {osl27 : Array (Option Value)} {kV27 doc27 pm27 cdv27 ct27 : Value}
  {f28 : Addr} {oc28 : Value} {od28 an28 : Option Addr} {osl28 : Array (Option Value)} {kV28 doc28 pm28 cdv28 ct28 : Value}
  {f29 : Addr} {oc29 : Value} {od29 an29 : Option Addr} {osl29 : Array (Option Value)} {kV29 doc29 pm29 cdv29 ct29 : Value}
  {f30 : Addr} {oc30 : Value} {od30 an30 : Option Addr} {osl30 : Array (Option Value)} {kV30 doc30 pm30 cdv30 ct30 : Value}
  {f31 : Addr} {oc31 : Value} {od31 an31 : Option Addr} {osl31 : Array (Option Value)} {kV31 doc31 pm31 cdv31 ct31 : Value}
  {f32 : Addr} {oc32 : Value} {od32 an32 : Option Addr} {osl32 : Array (Option Value)} {kV32 doc32 pm32 cdv32 ct32 : Value}
  {f33 : Addr} {oc33 : Value} {od33 an33 : Option Addr} {osl33 : Array (Option Value)} {kV33 doc33 pm33 cdv33 ct33 : Value}
  {f34 : Addr} {oc34 : Value} {od34 an34 : Option Addr} {osl34 : Array (Option Value)} {kV34 doc34 pm34 cdv34 ct34 : Value}
  {f35 : Addr} {oc35 : Value} {od35 an35 : Option Addr} {osl35 : Array (Option Value)} {kV35 doc35 pm35 cdv35 ct35 : Value}
  {t_DROP : Tok}
  {t_NEVER : Tok}
  {t_NOT_TOLD : Tok}
  {tk_NOUGHT_0 : Tok}
  {tk_NOUGHT_1 : Tok}
  {ta_NOUGHT : Addr} {od_NOUGHT : Option Addr} {n_NOUGHT : Nat} {osl_NOUGHT : Array (Option Value)}
  {tk_ONE_0 : Tok}
  {tk_ONE_1 : Tok}
  {ta_ONE : Addr} {od_ONE : Option Addr} {n_ONE : Nat} {osl_ONE : Array (Option Value)}
  {tk_PULLS_BELOW_NOUGHT_0_0 : Tok}
  {tk_PULLS_BELOW_NOUGHT_0_1 : Tok}
  {ta_PULLS_BELOW_NOUGHT_0 : Addr} {od_PULLS_BELOW_NOUGHT_0 : Option Addr} {n_PULLS_BELOW_NOUGHT_0 : Nat} {osl_PULLS_BELOW_NOUGHT_0 : Array (Option Value)}
  {kk_PULLS_BELOW_NOUGHT_0 : Tok}
  {tk_PULLS_BELOW_NOUGHT_1_0 : Tok}
  {tk_PULLS_BELOW_NOUGHT_1_1 : Tok}
  {ta_PULLS_BELOW_NOUGHT_1 : Addr} {od_PULLS_BELOW_NOUGHT_1 : Option Addr} {n_PULLS_BELOW_NOUGHT_1 : Nat} {osl_PULLS_BELOW_NOUGHT_1 : Array (Option Value)}
  {kk_PULLS_BELOW_NOUGHT_1 : Tok}
  {tk_PULLS_BELOW_NOUGHT_2_0 : Tok}
  {tk_PULLS_BELOW_NOUGHT_2_1 : Tok}
  {ta_PULLS_BELOW_NOUGHT_2 : Addr} {od_PULLS_BELOW_NOUGHT_2 : Option Addr} {n_PULLS_BELOW_NOUGHT_2 : Nat} {osl_PULLS_BELOW_NOUGHT_2 : Array (Option Value)}
  {kk_PULLS_BELOW_NOUGHT_2 : Tok}
  {tk_PULLS_BELOW_NOUGHT_3_0 : Tok}
  {tk_PULLS_BELOW_NOUGHT_3_1 : Tok}
  {ta_PULLS_BELOW_NOUGHT_3 : Addr} {od_PULLS_BELOW_NOUGHT_3 : Option Addr} {n_PULLS_BELOW_NOUGHT_3 : Nat} {osl_PULLS_BELOW_NOUGHT_3 : Array (Option Value)}
  {kk_PULLS_BELOW_NOUGHT_3 : Tok}
  {tk_PULLS_BELOW_NOUGHT_4_0 : Tok}
  {tk_PULLS_BELOW_NOUGHT_4_1 : Tok}
  {ta_PULLS_BELOW_NOUGHT_4 : Addr} {od_PULLS_BELOW_NOUGHT_4 : Option Addr} {n_PULLS_BELOW_NOUGHT_4 : Nat} {osl_PULLS_BELOW_NOUGHT_4 : Array (Option Value)}
  {kk_PULLS_BELOW_NOUGHT_4 : Tok}
  {tk_PULLS_BELOW_NOUGHT_5_0 : Tok}
  {tk_PULLS_BELOW_NOUGHT_5_1 : Tok}
  {ta_PULLS_BELOW_NOUGHT_5 : Addr} {od_PULLS_BELOW_NOUGHT_5 : Option Addr} {n_PULLS_BELOW_NOUGHT_5 : Nat} {osl_PULLS_BELOW_NOUGHT_5 : Array (Option Value)}
  {kk_PULLS_BELOW_NOUGHT_5 : Tok}
  {da_PULLS_BELOW_NOUGHT : Addr} {ep_PULLS_BELOW_NOUGHT : Nat}
  {t_TURN : Tok}
  {WC : Addr}
  {wf0 : Addr} {woc0 : Value} {wod0 wan0 : Option Addr} {wosl0 : Array (Option Value)} {wkV0 wdoc0 wpm0 wcdv0 wct0 : Value}
  {wf1 : Addr} {woc1 : Value} {wod1 wan1 : Option Addr} {wosl1 : Array (Option Value)} {wkV1 wdoc1 wpm1 wcdv1 wct1 : Value}
  {wf2 : Addr} {woc2 : Value} {wod2 wan2 : Option Addr} {wosl2 : Array (Option Value)} {wkV2 wdoc2 wpm2 wcdv2 wct2 : Value}
  {wf3 : Addr} {woc3 : Value} {wod3 wan3 : Option Addr} {wosl3 : Array (Option Value)} {wkV3 wdoc3 wpm3 wcdv3 wct3 : Value}
  (a0 : W.nsIn K mainGlobals "plus" = some (some (.ref f0))) (l0 : K.lookup f0 = some ⟨oc0, od0, .func (W.fnOf "plus" "plus" (zH Zy) (zE Zy) (ze Zy) .none kV0 doc0 pm0 an0 cdv0 ct0), osl0⟩) (c0 : W.codeIn K cdv0 "plus" = true) (k0 : W.keepIn K (.ref f0) = true)
  (a1 : W.nsIn K mainGlobals "times" = some (some (.ref f1))) (l1 : K.lookup f1 = some ⟨oc1, od1, .func (W.fnOf "times" "times" (zH qX) (zE qX) (ze qX) .none kV1 doc1 pm1 an1 cdv1 ct1), osl1⟩) (c1 : W.codeIn K cdv1 "times" = true) (k1 : W.keepIn K (.ref f1) = true)
  (a2 : W.nsIn K mainGlobals "minus" = some (some (.ref f2))) (l2 : K.lookup f2 = some ⟨oc2, od2, .func (W.fnOf "minus" "minus" (zH qY) (zE qY) (ze qY) .none kV2 doc2 pm2 an2 cdv2 ct2), osl2⟩) (c2 : W.codeIn K cdv2 "minus" = true) (k2 : W.keepIn K (.ref f2) = true)
  (a3 : W.nsIn K mainGlobals "whole_sign" = some (some (.ref f3))) (l3 : K.lookup f3 = some ⟨oc3, od3, .func (W.fnOf "whole_sign" "whole_sign" (zH xD) (zE xD) (ze xD) .none kV3 doc3 pm3 an3 cdv3 ct3), osl3⟩) (c3 : W.codeIn K cdv3 "whole_sign" = true) (k3 : W.keepIn K (.ref f3) = true)
  (a4 : W.nsIn K mainGlobals "sign" = some (some (.ref f4))) (l4 : K.lookup f4 = some ⟨oc4, od4, .func (W.fnOf "sign" "sign" (zH Zv) (zE Zv) (ze Zv) .none kV4 doc4 pm4 an4 cdv4 ct4), osl4⟩) (c4 : W.codeIn K cdv4 "sign" = true) (k4 : W.keepIn K (.ref f4) = true)
  (a5 : W.nsIn K mainGlobals "turn_of" = some (some (.ref f5))) (l5 : K.lookup f5 = some ⟨oc5, od5, .func (W.fnOf "turn_of" "turn_of" (zH vM) (zE vM) (ze vM) .none kV5 doc5 pm5 an5 cdv5 ct5), osl5⟩) (c5 : W.codeIn K cdv5 "turn_of" = true) (k5 : W.keepIn K (.ref f5) = true)
  (a6 : W.nsIn K mainGlobals "pull" = some (some (.ref f6))) (l6 : K.lookup f6 = some ⟨oc6, od6, .func (W.fnOf "pull" "pull" (zH Zx) (zE Zx) (ze Zx) .none kV6 doc6 pm6 an6 cdv6 ct6), osl6⟩) (c6 : W.codeIn K cdv6 "pull" = true) (k6 : W.keepIn K (.ref f6) = true)
  (a7 : W.nsIn K mainGlobals "simple" = some (some (.ref f7))) (l7 : K.lookup f7 = some ⟨oc7, od7, .func (W.fnOf "simple" "simple" (zH uR) (zE uR) (ze uR) .none kV7 doc7 pm7 an7 cdv7 ct7), osl7⟩) (c7 : W.codeIn K cdv7 "simple" = true) (k7 : W.keepIn K (.ref f7) = true)
  (a8 : W.nsIn K mainGlobals "mirrored" = some (some (.ref f8))) (l8 : K.lookup f8 = some ⟨oc8, od8, .func (W.fnOf "mirrored" "mirrored" (zH wU) (zE wU) (ze wU) .none kV8 doc8 pm8 an8 cdv8 ct8), osl8⟩) (c8 : W.codeIn K cdv8 "mirrored" = true) (k8 : W.keepIn K (.ref f8) = true)
  (a9 : W.nsIn K mainGlobals "led" = some (some (.ref f9))) (l9 : K.lookup f9 = some ⟨oc9, od9, .func (W.fnOf "led" "led" (zH V1) (zE V1) (ze V1) .none kV9 doc9 pm9 an9 cdv9 ct9), osl9⟩) (c9 : W.codeIn K cdv9 "led" = true) (k9 : W.keepIn K (.ref f9) = true)
  (a10 : W.nsIn K mainGlobals "images" = some (some (.ref f10))) (l10 : K.lookup f10 = some ⟨oc10, od10, .func (W.fnOf "images" "images" (zH uU) (zE uU) (ze uU) .none kV10 doc10 pm10 an10 cdv10 ct10), osl10⟩) (c10 : W.codeIn K cdv10 "images" = true) (k10 : W.keepIn K (.ref f10) = true)
  (a11 : W.nsIn K mainGlobals "less_by" = some (some (.ref f11))) (l11 : K.lookup f11 = some ⟨oc11, od11, .func (W.fnOf "less_by" "less_by" (zH vN) (zE vN) (ze vN) .none kV11 doc11 pm11 an11 cdv11 ct11), osl11⟩) (c11 : W.codeIn K cdv11 "less_by" = true) (k11 : W.keepIn K (.ref f11) = true)
  (a12 : W.nsIn K mainGlobals "images_with_behind" = some (some (.ref f12))) (l12 : K.lookup f12 = some ⟨oc12, od12, .func (W.fnOf "images_with_behind" "images_with_behind" (zH yn) (zE yn) (ze yn) .none kV12 doc12 pm12 an12 cdv12 ct12), osl12⟩) (c12 : W.codeIn K cdv12 "images_with_behind" = true) (k12 : W.keepIn K (.ref f12) = true)
  (a13 : W.nsIn K mainGlobals "is_above" = some (some (.ref f13))) (l13 : K.lookup f13 = some ⟨oc13, od13, .func (W.fnOf "is_above" "is_above" (zH wY) (zE wY) (ze wY) .none kV13 doc13 pm13 an13 cdv13 ct13), osl13⟩) (c13 : W.codeIn K cdv13 "is_above" = true) (k13 : W.keepIn K (.ref f13) = true)
  (a14 : W.nsIn K mainGlobals "is_below" = some (some (.ref f14))) (l14 : K.lookup f14 = some ⟨oc14, od14, .func (W.fnOf "is_below" "is_below" (zH wX) (zE wX) (ze wX) .none kV14 doc14 pm14 an14 cdv14 ct14), osl14⟩) (c14 : W.codeIn K cdv14 "is_below" = true) (k14 : W.keepIn K (.ref f14) = true)
  (a15 : W.nsIn K mainGlobals "which_lengthen" = some (some (.ref f15))) (l15 : K.lookup f15 = some ⟨oc15, od15, .func (W.fnOf "which_lengthen" "which_lengthen" (zH yH) (zE yH) (ze yH) .none kV15 doc15 pm15 an15 cdv15 ct15), osl15⟩) (c15 : W.codeIn K cdv15 "which_lengthen" = true) (k15 : W.keepIn K (.ref f15) = true)
  (a16 : W.nsIn K mainGlobals "is_short" = some (some (.ref f16))) (l16 : K.lookup f16 = some ⟨oc16, od16, .func (W.fnOf "is_short" "is_short" (zH wW) (zE wW) (ze wW) .none kV16 doc16 pm16 an16 cdv16 ct16), osl16⟩) (c16 : W.codeIn K cdv16 "is_short" = true) (k16 : W.keepIn K (.ref f16) = true)
  (a17 : W.nsIn K mainGlobals "first_below" = some (some (.ref f17))) (l17 : K.lookup f17 = some ⟨oc17, od17, .func (W.fnOf "first_below" "first_below" (zH xm) (zE xm) (ze xm) .none kV17 doc17 pm17 an17 cdv17 ct17), osl17⟩) (c17 : W.codeIn K cdv17 "first_below" = true) (k17 : W.keepIn K (.ref f17) = true)
  (a18 : W.nsIn K mainGlobals "least" = some (some (.ref f18))) (l18 : K.lookup f18 = some ⟨oc18, od18, .func (W.fnOf "least" "least" (zH qZ) (zE qZ) (ze qZ) .none kV18 doc18 pm18 an18 cdv18 ct18), osl18⟩) (c18 : W.codeIn K cdv18 "least" = true) (k18 : W.keepIn K (.ref f18) = true)
  (a19 : W.nsIn K mainGlobals "parted" = some (some (.ref f19))) (l19 : K.lookup f19 = some ⟨oc19, od19, .func (W.fnOf "parted" "parted" (zH uS) (zE uS) (ze uS) .none kV19 doc19 pm19 an19 cdv19 ct19), osl19⟩) (c19 : W.codeIn K cdv19 "parted" = true) (k19 : W.keepIn K (.ref f19) = true)
  (a20 : W.nsIn K mainGlobals "same" = some (some (.ref f20))) (l20 : K.lookup f20 = some ⟨oc20, od20, .func (W.fnOf "same" "same" (zH Zw) (zE Zw) (ze Zw) .none kV20 doc20 pm20 an20 cdv20 ct20), osl20⟩) (c20 : W.codeIn K cdv20 "same" = true) (k20 : W.keepIn K (.ref f20) = true)
  (a21 : W.nsIn K mainGlobals "in_turn" = some (some (.ref f21))) (l21 : K.lookup f21 = some ⟨oc21, od21, .func (W.fnOf "in_turn" "in_turn" (zH vS) (zE vS) (ze vS) .none kV21 doc21 pm21 an21 cdv21 ct21), osl21⟩) (c21 : W.codeIn K cdv21 "in_turn" = true) (k21 : W.keepIn K (.ref f21) = true)
  (a22 : W.nsIn K mainGlobals "after_drop" = some (some (.ref f22))) (l22 : K.lookup f22 = some ⟨oc22, od22, .func (W.fnOf "after_drop" "after_drop" (zH xG) (zE xG) (ze xG) .none kV22 doc22 pm22 an22 cdv22 ct22), osl22⟩) (c22 : W.codeIn K cdv22 "after_drop" = true) (k22 : W.keepIn K (.ref f22) = true)
  (a23 : W.nsIn K mainGlobals "is_mirror" = some (some (.ref f23))) (l23 : K.lookup f23 = some ⟨oc23, od23, .func (W.fnOf "is_mirror" "is_mirror" (zH xU) (zE xU) (ze xU) .none kV23 doc23 pm23 an23 cdv23 ct23), osl23⟩) (c23 : W.codeIn K cdv23 "is_mirror" = true) (k23 : W.keepIn K (.ref f23) = true)
  (a24 : W.nsIn K mainGlobals "after_turn" = some (some (.ref f24))) (l24 : K.lookup f24 = some ⟨oc24, od24, .func (W.fnOf "after_turn" "after_turn" (zH xE) (zE xE) (ze xE) .none kV24 doc24 pm24 an24 cdv24 ct24), osl24⟩) (c24 : W.codeIn K cdv24 "after_turn" = true) (k24 : W.keepIn K (.ref f24) = true)
  (a25 : W.nsIn K mainGlobals "after_move" = some (some (.ref f25))) (l25 : K.lookup f25 = some ⟨oc25, od25, .func (W.fnOf "after_move" "after_move" (zH xF) (zE xF) (ze xF) .none kV25 doc25 pm25 an25 cdv25 ct25), osl25⟩) (c25 : W.codeIn K cdv25 "after_move" = true) (k25 : W.keepIn K (.ref f25) = true)
  (a26 : W.nsIn K mainGlobals "to_least" = some (some (.ref f26))) (l26 : K.lookup f26 = some ⟨oc26, od26, .func (W.fnOf "to_least" "to_least" (zH wR) (zE wR) (ze wR) .none kV26 doc26 pm26 an26 cdv26 ct26), osl26⟩) (c26 : W.codeIn K cdv26 "to_least" = true) (k26 : W.keepIn K (.ref f26) = true)
  (a27 : W.nsIn K mainGlobals "_law_cell_at" = some (some (.ref f27))) (l27 : K.lookup f27 = some ⟨oc27, od27, .func (W.fnOf "_law_cell_at" "_law_cell_at" (zH xT) (zE xT) (ze xT) .none kV27 doc27 pm27 an27 cdv27 ct27), osl27⟩) (c27 : W.codeIn K cdv27 "_law_cell_at" = true) (k27 : W.keepIn K (.ref f27) = true)
  (a28 : W.nsIn K mainGlobals "_law_mix" = some (some (.ref f28))) (l28 : K.lookup f28 = some ⟨oc28, od28, .func (W.fnOf "_law_mix" "_law_mix" (zH ja) (zE ja) (ze ja) .none kV28 doc28 pm28 an28 cdv28 ct28), osl28⟩) (c28 : W.codeIn K cdv28 "_law_mix" = true) (k28 : W.keepIn K (.ref f28) = true)
  (a29 : W.nsIn K mainGlobals "_law_whole" = some (some (.ref f29))) (l29 : K.lookup f29 = some ⟨oc29, od29, .func (W.fnOf "_law_whole" "_law_whole" (zH vO) (zE vO) (ze vO) .none kV29 doc29 pm29 an29 cdv29 ct29), osl29⟩) (c29 : W.codeIn K cdv29 "_law_whole" = true) (k29 : W.keepIn K (.ref f29) = true)
  (a30 : W.nsIn K mainGlobals "_law_house" = some (some (.ref f30))) (l30 : K.lookup f30 = some ⟨oc30, od30, .func (W.fnOf "_law_house" "_law_house" (zH vQ) (zE vQ) (ze vQ) .none kV30 doc30 pm30 an30 cdv30 ct30), osl30⟩) (c30 : W.codeIn K cdv30 "_law_house" = true) (k30 : W.keepIn K (.ref f30) = true)
  (a31 : W.nsIn K mainGlobals "_law_word" = some (some (.ref f31))) (l31 : K.lookup f31 = some ⟨oc31, od31, .func (W.fnOf "_law_word" "_law_word" (zH uT) (zE uT) (ze uT) .none kV31 doc31 pm31 an31 cdv31 ct31), osl31⟩) (c31 : W.codeIn K cdv31 "_law_word" = true) (k31 : W.keepIn K (.ref f31) = true)
  (a32 : W.nsIn K mainGlobals "_law_m" = some (some (.ref f32))) (l32 : K.lookup f32 = some ⟨oc32, od32, .func (W.fnOf "_law_m" "_law_m" (zH V2) (zE V2) (ze V2) .none kV32 doc32 pm32 an32 cdv32 ct32), osl32⟩) (c32 : W.codeIn K cdv32 "_law_m" = true) (k32 : W.keepIn K (.ref f32) = true)
  (a33 : W.nsIn K mainGlobals "_law_moved" = some (some (.ref f33))) (l33 : K.lookup f33 = some ⟨oc33, od33, .func (W.fnOf "_law_moved" "_law_moved" (zH vP) (zE vP) (ze vP) .none kV33 doc33 pm33 an33 cdv33 ct33), osl33⟩) (c33 : W.codeIn K cdv33 "_law_moved" = true) (k33 : W.keepIn K (.ref f33) = true)
  (a34 : W.nsIn K mainGlobals "_law_walked" = some (some (.ref f34))) (l34 : K.lookup f34 = some ⟨oc34, od34, .func (W.fnOf "_law_walked" "_law_walked" (zH wV) (zE wV) (ze wV) .none kV34 doc34 pm34 an34 cdv34 ct34), osl34⟩) (c34 : W.codeIn K cdv34 "_law_walked" = true) (k34 : W.keepIn K (.ref f34) = true)
  (a35 : W.nsIn K mainGlobals "law" = some (some (.ref f35))) (l35 : K.lookup f35 = some ⟨oc35, od35, .func (W.fnOf "law" "law" (zH Z8) (zE Z8) (ze Z8) .none kV35 doc35 pm35 an35 cdv35 ct35), osl35⟩) (c35 : W.codeIn K cdv35 "law" = true) (k35 : W.keepIn K (.ref f35) = true)
  (b_all : W.nsIn K mainGlobals "all" = some none)
  (b_bool : W.nsIn K mainGlobals "bool" = some none)
  (b_enumerate : W.nsIn K mainGlobals "enumerate" = some none)
  (b_int : W.nsIn K mainGlobals "int" = some none)
  (b_isinstance : W.nsIn K mainGlobals "isinstance" = some none)
  (b_len : W.nsIn K mainGlobals "len" = some none)
  (b_list : W.nsIn K mainGlobals "list" = some none)
  (b_max : W.nsIn K mainGlobals "max" = some none)
  (b_min : W.nsIn K mainGlobals "min" = some none)
  (b_range : W.nsIn K mainGlobals "range" = some none)
  (b_reversed : W.nsIn K mainGlobals "reversed" = some none)
  (b_tuple : W.nsIn K mainGlobals "tuple" = some none)
  (b_zip : W.nsIn K mainGlobals "zip" = some none)
  (q_DROP : W.nsIn K mainGlobals "DROP" = some (some (.str "drop" t_DROP)))
  (q_NEVER : W.nsIn K mainGlobals "NEVER" = some (some (.int 0 t_NEVER)))
  (q_NOT_TOLD : W.nsIn K mainGlobals "NOT_TOLD" = some (some (.int 2 t_NOT_TOLD)))
  (q_NOUGHT : W.nsIn K mainGlobals "NOUGHT" = some (some (.ref ta_NOUGHT)))
  (r_NOUGHT : K.lookup ta_NOUGHT = some ⟨.type "tuple", od_NOUGHT, .seq #[.int 0 tk_NOUGHT_0, .int 0 tk_NOUGHT_1] n_NOUGHT, osl_NOUGHT⟩)
  (q_ONE : W.nsIn K mainGlobals "ONE" = some (some (.ref ta_ONE)))
  (r_ONE : K.lookup ta_ONE = some ⟨.type "tuple", od_ONE, .seq #[.int 1 tk_ONE_0, .int 0 tk_ONE_1] n_ONE, osl_ONE⟩)
  (q_PULLS_BELOW_NOUGHT : W.nsIn K mainGlobals "PULLS_BELOW_NOUGHT" = some (some (.ref da_PULLS_BELOW_NOUGHT)))
  (r_PULLS_BELOW_NOUGHT : K.lookup da_PULLS_BELOW_NOUGHT = some ⟨.type "dict", none, .dict #[⟨0, .int 0 kk_PULLS_BELOW_NOUGHT_0, .ref ta_PULLS_BELOW_NOUGHT_0⟩, ⟨2, .int 2 kk_PULLS_BELOW_NOUGHT_1, .ref ta_PULLS_BELOW_NOUGHT_1⟩, ⟨3, .int 3 kk_PULLS_BELOW_NOUGHT_2, .ref ta_PULLS_BELOW_NOUGHT_2⟩, ⟨4, .int 4 kk_PULLS_BELOW_NOUGHT_3, .ref ta_PULLS_BELOW_NOUGHT_3⟩, ⟨5, .int 5 kk_PULLS_BELOW_NOUGHT_4, .ref ta_PULLS_BELOW_NOUGHT_4⟩, ⟨6, .int 6 kk_PULLS_BELOW_NOUGHT_5, .ref ta_PULLS_BELOW_NOUGHT_5⟩] ep_PULLS_BELOW_NOUGHT, #[]⟩)
  (r_PULLS_BELOW_NOUGHT_0 : K.lookup ta_PULLS_BELOW_NOUGHT_0 = some ⟨.type "tuple", od_PULLS_BELOW_NOUGHT_0, .seq #[.int 2 tk_PULLS_BELOW_NOUGHT_0_0, .int 0 tk_PULLS_BELOW_NOUGHT_0_1] n_PULLS_BELOW_NOUGHT_0, osl_PULLS_BELOW_NOUGHT_0⟩)
  (r_PULLS_BELOW_NOUGHT_1 : K.lookup ta_PULLS_BELOW_NOUGHT_1 = some ⟨.type "tuple", od_PULLS_BELOW_NOUGHT_1, .seq #[.int 0 tk_PULLS_BELOW_NOUGHT_1_0, .int 0 tk_PULLS_BELOW_NOUGHT_1_1] n_PULLS_BELOW_NOUGHT_1, osl_PULLS_BELOW_NOUGHT_1⟩)
  (r_PULLS_BELOW_NOUGHT_2 : K.lookup ta_PULLS_BELOW_NOUGHT_2 = some ⟨.type "tuple", od_PULLS_BELOW_NOUGHT_2, .seq #[.int 1 tk_PULLS_BELOW_NOUGHT_2_0, .int 0 tk_PULLS_BELOW_NOUGHT_2_1] n_PULLS_BELOW_NOUGHT_2, osl_PULLS_BELOW_NOUGHT_2⟩)
  (r_PULLS_BELOW_NOUGHT_3 : K.lookup ta_PULLS_BELOW_NOUGHT_3 = some ⟨.type "tuple", od_PULLS_BELOW_NOUGHT_3, .seq #[.int 2 tk_PULLS_BELOW_NOUGHT_3_0, .int 0 tk_PULLS_BELOW_NOUGHT_3_1] n_PULLS_BELOW_NOUGHT_3, osl_PULLS_BELOW_NOUGHT_3⟩)
  (r_PULLS_BELOW_NOUGHT_4 : K.lookup ta_PULLS_BELOW_NOUGHT_4 = some ⟨.type "tuple", od_PULLS_BELOW_NOUGHT_4, .seq #[.int 0 tk_PULLS_BELOW_NOUGHT_4_0, .int 1 tk_PULLS_BELOW_NOUGHT_4_1] n_PULLS_BELOW_NOUGHT_4, osl_PULLS_BELOW_NOUGHT_4⟩)
  (r_PULLS_BELOW_NOUGHT_5 : K.lookup ta_PULLS_BELOW_NOUGHT_5 = some ⟨.type "tuple", od_PULLS_BELOW_NOUGHT_5, .seq #[.int 3 tk_PULLS_BELOW_NOUGHT_5_0, .int 0 tk_PULLS_BELOW_NOUGHT_5_1] n_PULLS_BELOW_NOUGHT_5, osl_PULLS_BELOW_NOUGHT_5⟩)
  (q_TURN : W.nsIn K mainGlobals "TURN" = some (some (.str "turn" t_TURN)))
  (wC : W.nsIn K mainGlobals "Walk" = some (some (.ref WC)))
  (wa0 : PySem.W.findIn K (.ref WC) "__init__" = some (some (.ref wf0)))
  (wi0 : PySem.W.isFn K (.ref wf0) = true)
  (wl0 : K.lookup wf0 = some ⟨woc0, wod0, .func (W.fnOf "__init__" "Walk.__init__" (zH sWI) (zE sWI) (ze sWI) .none wkV0 wdoc0 wpm0 wan0 wcdv0 wct0), wosl0⟩)
  (wc0 : W.codeIn K wcdv0 "Walk.__init__" = true)
  (wk0 : W.keepIn K (.ref wf0) = true)
  (wa1 : PySem.W.findIn K (.ref WC) "do" = some (some (.ref wf1)))
  (wi1 : PySem.W.isFn K (.ref wf1) = true)
  (wl1 : K.lookup wf1 = some ⟨woc1, wod1, .func (W.fnOf "do" "Walk.do" (zH sWD) (zE sWD) (ze sWD) .none wkV1 wdoc1 wpm1 wan1 wcdv1 wct1), wosl1⟩)
  (wc1 : W.codeIn K wcdv1 "Walk.do" = true)
  (wk1 : W.keepIn K (.ref wf1) = true)
  (wa2 : PySem.W.findIn K (.ref WC) "bring" = some (some (.ref wf2)))
  (wi2 : PySem.W.isFn K (.ref wf2) = true)
  (wl2 : K.lookup wf2 = some ⟨woc2, wod2, .func (W.fnOf "bring" "Walk.bring" (zH sWB) (zE sWB) (ze sWB) .none wkV2 wdoc2 wpm2 wan2 wcdv2 wct2), wosl2⟩)
  (wc2 : W.codeIn K wcdv2 "Walk.bring" = true)
  (wk2 : W.keepIn K (.ref wf2) = true)
  (wa3 : PySem.W.findIn K (.ref WC) "shorten" = some (some (.ref wf3)))
  (wi3 : PySem.W.isFn K (.ref wf3) = true)
  (wl3 : K.lookup wf3 = some ⟨woc3, wod3, .func (W.fnOf "shorten" "Walk.shorten" (zH sWS) (zE sWS) (ze sWS) .none wkV3 wdoc3 wpm3 wan3 wcdv3 wct3), wosl3⟩)
  (wc3 : W.codeIn K wcdv3 "Walk.shorten" = true)
  (wk3 : W.keepIn K (.ref wf3) = true)
  (wpg : PySem.W.plainGet K WC Str.empty = true)
  (whd : PySem.W.hasDictIn K WC = true)
  (wpo : PySem.W.plainOver K WC = true)
  (wsa : PySem.W.findIn K (.ref WC) "__setattr__" = some (some (.builtin "object.__setattr__")))
  (wmk : PySem.W.makesIn K WC = true)
  (wkc : W.keepIn K (.ref WC) = true)
  (wnh : PySem.W.findIn K (.ref WC) "house" = some none)
  (wnw : PySem.W.findIn K (.ref WC) "word" = some none)
  (wnm : PySem.W.findIn K (.ref WC) "moves" = some none)
  : ∃ fd : FuncData, (∀ (s : Shared) (v : Value), BindsTo s fd ⟨[v], []⟩ [("_law_script", v)]) /\ ∀ base : Heap, K.In base -> base.Ns mainGlobals mg -> FnOk l.prog w K mg base CX0 25 fa fd ["_law_script"] (spF K 1 g_law) := by
 have e := hfa.symm.trans (W.mg_of X G a35)
 cases e
 have T : Txt K mg := ⟨trivial, W.mg_none_of X G b_all, W.mg_none_of X G b_bool, W.mg_none_of X G b_enumerate, W.mg_none_of X G b_int, W.mg_none_of X G b_isinstance, W.mg_none_of X G b_len, W.mg_none_of X G b_list, W.mg_none_of X G b_max, W.mg_none_of X G b_min, W.mg_none_of X G b_range, W.mg_none_of X G b_reversed, W.mg_none_of X G b_tuple, W.mg_none_of X G b_zip, ⟨_, W.mg_of X G q_DROP⟩, ⟨_, W.mg_of X G q_NEVER⟩, ⟨_, W.mg_of X G q_NOT_TOLD⟩, Q5 (xs := [.int 0, .int 0]) (W.mg_of X G q_NOUGHT) r_NOUGHT (show 2 <= sizeLine from by decide) (.cons ⟨_, rfl⟩ (.cons ⟨_, rfl⟩ .nil)) (.cons (Has.int_iff.mpr rfl) (.cons (Has.int_iff.mpr rfl) .nil)), Q5 (xs := [.int 1, .int 0]) (W.mg_of X G q_ONE) r_ONE (show 2 <= sizeLine from by decide) (.cons ⟨_, rfl⟩ (.cons ⟨_, rfl⟩ .nil)) (.cons (Has.int_iff.mpr rfl) (.cons (Has.int_iff.mpr rfl) .nil)), KI (W.mg_of X G q_PULLS_BELOW_NOUGHT) r_PULLS_BELOW_NOUGHT (.cons (v := .ref _) (by rfl) rfl (uV (xs := [.int 2, .int 0]) r_PULLS_BELOW_NOUGHT_0 (show 2 <= sizeLine from by decide) (.cons ⟨_, rfl⟩ (.cons ⟨_, rfl⟩ .nil)) (.cons (Has.int_iff.mpr rfl) (.cons (Has.int_iff.mpr rfl) .nil))) (.cons (v := .ref _) (by rfl) rfl (uV (xs := [.int 0, .int 0]) r_PULLS_BELOW_NOUGHT_1 (show 2 <= sizeLine from by decide) (.cons ⟨_, rfl⟩ (.cons ⟨_, rfl⟩ .nil)) (.cons (Has.int_iff.mpr rfl) (.cons (Has.int_iff.mpr rfl) .nil))) (.cons (v := .ref _) (by rfl) rfl (uV (xs := [.int 1, .int 0]) r_PULLS_BELOW_NOUGHT_2 (show 2 <= sizeLine from by decide) (.cons ⟨_, rfl⟩ (.cons ⟨_, rfl⟩ .nil)) (.cons (Has.int_iff.mpr rfl) (.cons (Has.int_iff.mpr rfl) .nil))) (.cons (v := .ref _) (by rfl) rfl (uV (xs := [.int 2, .int 0]) r_PULLS_BELOW_NOUGHT_3 (show 2 <= sizeLine from by decide) (.cons ⟨_, rfl⟩ (.cons ⟨_, rfl⟩ .nil)) (.cons (Has.int_iff.mpr rfl) (.cons (Has.int_iff.mpr rfl) .nil))) (.cons (v := .ref _) (by rfl) rfl (uV (xs := [.int 0, .int 1]) r_PULLS_BELOW_NOUGHT_4 (show 2 <= sizeLine from by decide) (.cons ⟨_, rfl⟩ (.cons ⟨_, rfl⟩ .nil)) (.cons (Has.int_iff.mpr rfl) (.cons (Has.int_iff.mpr rfl) .nil))) (.cons (v := .ref _) (by rfl) rfl (uV (xs := [.int 3, .int 0]) r_PULLS_BELOW_NOUGHT_5 (show 2 <= sizeLine from by decide) (.cons ⟨_, rfl⟩ (.cons ⟨_, rfl⟩ .nil)) (.cons (Has.int_iff.mpr rfl) (.cons (Has.int_iff.mpr rfl) .nil))) .nil)))))) (by decide), ⟨_, W.mg_of X G q_TURN⟩⟩
 have F0 := yi (st := Zy) l0 c0 k0
 have B0 := F0.binds (ps := ["x", "y"]) fun _ _ _ _ _ _ => WJ (fun _ _ => rfl)
 have F1 := yi (st := qX) l1 c1 k1
 have B1 := F1.binds (ps := ["x", "y"]) fun _ _ _ _ _ _ => WJ (fun _ _ => rfl)
 have F2 := yi (st := qY) l2 c2 k2
 have B2 := F2.binds (ps := ["x"]) fun _ _ _ _ _ _ => JF (fun _ => rfl)
 have F3 := yi (st := xD) l3 c3 k3
 have B3 := F3.binds (ps := ["number"]) fun _ _ _ _ _ _ => JF (fun _ => rfl)
 have F4 := yi (st := Zv) l4 c4 k4
 have B4 := F4.binds (ps := ["x"]) fun _ _ _ _ _ _ => JF (fun _ => rfl)
 have F5 := yi (st := vM) l5 c5 k5
 have B5 := F5.binds (ps := ["house", "i", "j"]) fun _ _ _ _ _ _ => X9 (fun _ _ _ => rfl)
 have F6 := yi (st := Zx) l6 c6 k6
 have B6 := F6.binds (ps := ["house", "i", "j"]) fun _ _ _ _ _ _ => X9 (fun _ _ _ => rfl)
 have F7 := yi (st := uR) l7 c7 k7
 have B7 := F7.binds (ps := ["house", "i"]) fun _ _ _ _ _ _ => WJ (fun _ _ => rfl)
 have F8 := yi (st := wU) l8 c8 k8
 have B8 := F8.binds (ps := ["house", "i", "row"]) fun _ _ _ _ _ _ => X9 (fun _ _ _ => rfl)
 have F9 := yi (st := V1) l9 c9 k9
 have B9 := F9.binds (ps := ["house", "word", "row"]) fun _ _ _ _ _ _ => X9 (fun _ _ _ => rfl)
 have F10 := yi (st := uU) l10 c10 k10
 have B10 := F10.binds (ps := ["house", "word"]) fun _ _ _ _ _ _ => WJ (fun _ _ => rfl)
 have F11 := yi (st := vN) l11 c11 k11
 have B11 := F11.binds (ps := ["row", "factor", "other"]) fun _ _ _ _ _ _ => X9 (fun _ _ _ => rfl)
 have F12 := yi (st := yn) l12 c12 k12
 have B12 := F12.binds (ps := ["house", "rows", "i"]) fun _ _ _ _ _ _ => X9 (fun _ _ _ => rfl)
 have F13 := yi (st := wY) l13 c13 k13
 have B13 := F13.binds (ps := ["row"]) fun _ _ _ _ _ _ => JF (fun _ => rfl)
 have F14 := yi (st := wX) l14 c14 k14
 have B14 := F14.binds (ps := ["row"]) fun _ _ _ _ _ _ => JF (fun _ => rfl)
 have F15 := yi (st := yH) l15 c15 k15
 have B15 := F15.binds (ps := ["house", "word"]) fun _ _ _ _ _ _ => WJ (fun _ _ => rfl)
 have F16 := yi (st := wW) l16 c16 k16
 have B16 := F16.binds (ps := ["house", "word"]) fun _ _ _ _ _ _ => WJ (fun _ _ => rfl)
 have F17 := yi (st := xm) l17 c17 k17
 have B17 := F17.binds (ps := ["rows"]) fun _ _ _ _ _ _ => JF (fun _ => rfl)
 have F18 := yi (st := qZ) l18 c18 k18
 have B18 := F18.binds (ps := ["house", "word"]) fun _ _ _ _ _ _ => WJ (fun _ _ => rfl)
 have F19 := yi (st := uS) l19 c19 k19
 have B19 := F19.binds (ps := ["house", "one", "other"]) fun _ _ _ _ _ _ => X9 (fun _ _ _ => rfl)
 have F20 := yi (st := Zw) l20 c20 k20
 have B20 := F20.binds (ps := ["house", "one", "other"]) fun _ _ _ _ _ _ => X9 (fun _ _ _ => rfl)
 have F21 := yi (st := vS) l21 c21 k21
 have B21 := F21.binds (ps := ["i", "j", "signs"]) fun _ _ _ _ _ _ => X9 (fun _ _ _ => rfl)
 have F22 := yi (st := xG) l22 c22 k22
 have B22 := F22.binds (ps := ["word", "place"]) fun _ _ _ _ _ _ => WJ (fun _ _ => rfl)
 have F23 := yi (st := xU) l23 c23 k23
 have B23 := F23.binds (ps := ["house", "i"]) fun _ _ _ _ _ _ => WJ (fun _ _ => rfl)
 have F24 := yi (st := xE) l24 c24 k24
 have B24 := F24.binds (ps := ["house", "word", "place", "i", "j"]) fun _ _ _ _ _ _ => MR (fun _ _ _ _ _ => rfl)
 have F25 := yi (st := xF) l25 c25 k25
 have B25 := F25.binds (ps := ["house", "word", "move"]) fun _ _ _ _ _ _ => X9 (fun _ _ _ => rfl)
 have F26 := yi (st := wR) l26 c26 k26
 have B26 := F26.binds (ps := ["house", "word"]) fun _ _ _ _ _ _ => WJ (fun _ _ => rfl)
 have F27 := yi (st := xT) l27 c27 k27
 have B27 := F27.binds (ps := ["_law_script", "_law_k"]) fun _ _ _ _ _ _ => WJ (fun _ _ => rfl)
 have F28 := yi (st := ja) l28 c28 k28
 have B28 := F28.binds (ps := ["_law_cell", "_law_k"]) fun _ _ _ _ _ _ => WJ (fun _ _ => rfl)
 have F29 := yi (st := vO) l29 c29 k29
 have B29 := F29.binds (ps := ["_law_found"]) fun _ _ _ _ _ _ => JF (fun _ => rfl)
 have F30 := yi (st := vQ) l30 c30 k30
 have B30 := F30.binds (ps := ["_law_script", "_law_most"]) fun _ _ _ _ _ _ => WJ (fun _ _ => rfl)
 have F31 := yi (st := uT) l31 c31 k31
 have B31 := F31.binds (ps := ["_law_script", "_law_house_here", "_law_first", "_law_many"]) fun _ _ _ _ _ _ => Mo (fun _ _ _ _ => rfl)
 have F32 := yi (st := V2) l32 c32 k32
 have B32 := F32.binds (ps := ["_law_house_here", "_law_i", "_law_j"]) fun _ _ _ _ _ _ => X9 (fun _ _ _ => rfl)
 have F33 := yi (st := vP) l33 c33 k33
 have B33 := F33.binds (ps := ["_law_house_here", "_law_word_here", "_law_move"]) fun _ _ _ _ _ _ => X9 (fun _ _ _ => rfl)
 have F34 := yi (st := wV) l34 c34 k34
 have B34 := F34.binds (ps := ["_law_house_here", "_law_word_here", "_law_paper"]) fun _ _ _ _ _ _ => X9 (fun _ _ _ => rfl)
 have F35 := yi (st := Z8) l35 c35 k35
 have B35 := F35.binds (ps := ["_law_script"]) fun _ _ _ _ _ _ => JF (fun _ => rfl)
 have WF0 := yi (st := sWI) wl0 wc0 wk0
 have WF1 := yi (st := sWD) wl1 wc1 wk1
 have WF2 := yi (st := sWB) wl2 wc2 wk2
 have WF3 := yi (st := sWS) wl3 wc3 wk3
 have WB0 := WF0.binds (ps := ["self", "house", "word"]) fun _ _ _ _ _ _ => X9 (fun _ _ _ => rfl)
 have WB1 := WF1.binds (ps := ["self", "move"]) fun _ _ _ _ _ _ => WJ (fun _ _ => rfl)
 have WB2 := WF2.binds (ps := ["self", "place", "mirror"]) fun _ _ _ _ _ _ => X9 (fun _ _ _ => rfl)
 have WB3 := WF3.binds (ps := ["self"]) fun _ _ _ _ _ _ => JF (fun _ => rfl)
 have WW : Dl K mg := ⟨WC, wf0, wf1, wf2, wf3, _, _, _, _, ⟨wpg, whd, wpo, wsa⟩, wnh, wnw, wnm, W.mg_of X G wC, WF0, WF1, WF2, WF3, WB0, WB1, WB2, WB3, ⟨wmk, wa0, wi0, wkc⟩, ⟨wa1, wi1, wk1⟩, ⟨wa2, wi2, wk2⟩, ⟨wa3, wi3, wk3⟩⟩
 refine ⟨W.fnOf "law" "law" (zH Z8) (zE Z8) (ze Z8) .none kV35 doc35 pm35 an35 cdv35 ct35, fun s v => .of_eq rfl, fun base _ _ => ?_⟩
 have H0 : HasFn l.prog w K mg base 1 "plus" 2 ur := ⟨⟨_, _, _, Hy F0 T , W.mg_of X G a0, k0, B0⟩⟩
 have H1 : HasFn l.prog w K mg base 1 "times" 2 vc := ⟨⟨_, _, _, Kj F1 T , W.mg_of X G a1, k1, B1⟩⟩
 have H2 : HasFn l.prog w K mg base 1 "minus" 1 wA := ⟨⟨_, _, _, Kk F2 T , W.mg_of X G a2, k2, B2⟩⟩
 have H3 : HasFn l.prog w K mg base 1 "whole_sign" 1 yt := ⟨⟨_, _, _, Yh F3 T , W.mg_of X G a3, k3, B3⟩⟩
 have H4 : HasFn l.prog w K mg base 2 "sign" 1 vY := ⟨⟨_, _, _, Hv F4 T H3, W.mg_of X G a4, k4, B4⟩⟩
 have H5 : HasFn l.prog w K mg base 1 "turn_of" 3 zx := ⟨⟨_, _, _, V8 F5 T , W.mg_of X G a5, k5, B5⟩⟩
 have H6 : HasFn l.prog w K mg base 2 "pull" 3 xf := ⟨⟨_, _, _, Hx F6 T H2 H5, W.mg_of X G a6, k6, B6⟩⟩
 have H7 : HasFn l.prog w K mg base 1 "simple" 2 vq := ⟨⟨_, _, _, Qv F7 T , W.mg_of X G a7, k7, B7⟩⟩
 have H8 : HasFn l.prog w K mg base 3 "mirrored" 3 xX := ⟨⟨_, _, _, Wk F8 T H2 H0 H6 H1, W.mg_of X G a8, k8, B8⟩⟩
 have H9 : HasFn l.prog w K mg base 4 "led" 3 Xx := ⟨⟨_, _, _, CH F9 T H8, W.mg_of X G a9, k9, B9⟩⟩
 have H10 : HasFn l.prog w K mg base 5 "images" 2 xq := ⟨⟨_, _, _, Qy F10 T H9 H7, W.mg_of X G a10, k10, B10⟩⟩
 have H11 : HasFn l.prog w K mg base 2 "less_by" 3 wq := ⟨⟨_, _, _, V9 F11 T H2 H0 H1, W.mg_of X G a11, k11, B11⟩⟩
 have H12 : HasFn l.prog w K mg base 3 "images_with_behind" 3 zG := ⟨⟨_, _, _, uG F12 T H11 H6, W.mg_of X G a12, k12, B12⟩⟩
 have H13 : HasFn l.prog w K mg base 3 "is_above" 1 xZ := ⟨⟨_, _, _, Wo F13 T H4, W.mg_of X G a13, k13, B13⟩⟩
 have H14 : HasFn l.prog w K mg base 3 "is_below" 1 xY := ⟨⟨_, _, _, Wn F14 T H4, W.mg_of X G a14, k14, B14⟩⟩
 have H15 : HasFn l.prog w K mg base 6 "which_lengthen" 2 yI := ⟨⟨_, _, _, jc F15 T H10 H12 H13, W.mg_of X G a15, k15, B15⟩⟩
 have H16 : HasFn l.prog w K mg base 7 "is_short" 2 ye := ⟨⟨_, _, _, Wm F16 T H15, W.mg_of X G a16, k16, B16⟩⟩
 have H17 : HasFn l.prog w K mg base 4 "first_below" 1 yK := ⟨⟨_, _, _, Zh F17 T H14, W.mg_of X G a17, k17, B17⟩⟩
 have H18 : HasFn l.prog w K mg base 6 "least" 2 uI := ⟨⟨_, _, _, Kl F18 T H17 H10 H12, W.mg_of X G a18, k18, B18⟩⟩
 have H19 : HasFn l.prog w K mg base 6 "parted" 3 uW := ⟨⟨_, _, _, Qw F19 T H10, W.mg_of X G a19, k19, B19⟩⟩
 have H20 : HasFn l.prog w K mg base 7 "same" 3 kJ := ⟨⟨_, _, _, Hw F20 T H19, W.mg_of X G a20, k20, B20⟩⟩
 have H21 : HasFn l.prog w K mg base 1 "in_turn" 3 zA := ⟨⟨_, _, _, Ud F21 T , W.mg_of X G a21, k21, B21⟩⟩
 have H22 : HasFn l.prog w K mg base 1 "after_drop" 2 yL := ⟨⟨_, _, _, Yk F22 T , W.mg_of X G a22, k22, B22⟩⟩
 have H23 : HasFn l.prog w K mg base 1 "is_mirror" 2 xg := ⟨⟨_, _, _, Xm F23 T , W.mg_of X G a23, k23, B23⟩⟩
 have H24 : HasFn l.prog w K mg base 2 "after_turn" 5 yf := ⟨⟨_, _, _, Yi F24 T H21 H23 H5, W.mg_of X G a24, k24, B24⟩⟩
 have H25 : HasFn l.prog w K mg base 3 "after_move" 3 zo := ⟨⟨_, _, _, Yj F25 T H22 H24, W.mg_of X G a25, k25, B25⟩⟩
 have H26 : HasFn l.prog w K mg base 24 "to_least" 2 w4 := ⟨⟨_, _, _, Wj F26 T WW H25 H21 H16 H18 H5, W.mg_of X G a26, k26, B26⟩⟩
 have H27 : HasFn l.prog w K mg base 1 "_law_cell_at" 2 zI := ⟨⟨_, _, _, Xl F27 T , W.mg_of X G a27, k27, B27⟩⟩
 have H28 : HasFn l.prog w K mg base 1 "_law_mix" 2 yX := ⟨⟨_, _, _, Km F28 T , W.mg_of X G a28, k28, B28⟩⟩
 have H29 : HasFn l.prog w K mg base 1 "_law_whole" 1 vd := ⟨⟨_, _, _, Ua F29 T , W.mg_of X G a29, k29, B29⟩⟩
 have H30 : HasFn l.prog w K mg base 2 "_law_house" 2 ve := ⟨⟨_, _, _, Uc F30 T H27 H28, W.mg_of X G a30, k30, B30⟩⟩
 have H31 : HasFn l.prog w K mg base 2 "_law_word" 4 vv := ⟨⟨_, _, _, Qx F31 T H27 H28, W.mg_of X G a31, k31, B31⟩⟩
 have H32 : HasFn l.prog w K mg base 1 "_law_m" 3 Xy := ⟨⟨_, _, _, CJ F32 T , W.mg_of X G a32, k32, B32⟩⟩
 have H33 : HasFn l.prog w K mg base 2 "_law_moved" 3 ym := ⟨⟨_, _, _, Ub F33 T H32, W.mg_of X G a33, k33, B33⟩⟩
 have H34 : HasFn l.prog w K mg base 3 "_law_walked" 3 xp := ⟨⟨_, _, _, Wl F34 T H33 H29, W.mg_of X G a34, k34, B34⟩⟩
 exact CI F35 T H27 H30 H28 H33 H34 H31 H20 H26
open GH
theorem Dt {a b : Int} (h1 : -3 <= a) (h2 : a <= 3) : uz (.int a) (.int b) = some (.int (a * b)) := xW (uH (by omega) (by omega))
theorem szl {n : Nat} (h : n <= 100) : n <= sizeLine := g2t (vJ (by omega))
theorem ix0 {x : D} {l : List D} : ixD (.tup (x :: l)) (.int 0) = some x := by simp [ixD, atI, ixN]
theorem ix1 {x y : D} {l : List D} : ixD (.tup (x :: y :: l)) (.int 1) = some y := by
 have h := qr (xs := x :: y :: l) (j := 1) (v := y) rfl
 exact h
theorem Yd (x y : Gd) : ur [gD x, gD y] = some (gD (yE x y)) := by simp [ur, JC, gD, ix0, ix1, yE, sizeLine_eq]
theorem kD (x : Gd) : wA [gD x] = some (gD (yM x)) := by simp [wA, WN, gD, ix0, ix1, yM, sizeLine_eq]
theorem YZ {x : Gd} (y : Gd) (h : -3 <= x.1 /\ x.1 <= 2 /\ -1 <= x.2 /\ x.2 <= 0) : vc [gD x, gD y] = some (gD (yO x y)) := by
 have m1 := fun b => @Dt x.1 b (by omega) (by omega)
 have m2 := fun b => @Dt x.2 b (by omega) (by omega)
 simp [vc, WM, gD, ix0, ix1, yO, m1, m2, sizeLine_eq]
theorem YX (h : D) (i j a b : Int) : ∀ (ts : List T3) (s1 s2 s3 : Slot), ∃ o, y6 (Zs 3 (y7 (zQ 5) (y7 (zQ 6) (y7 (zQ 7) YO)))) (ifS (WI (blF (zc eqF (vF 5) (vF 3))) (blF (zc eqF (vF 6) (vF 4)))) (yY (vF 7)) nxF) (ts.map tD)
  [.fr h, .fr (.int i), .fr (.int j), .fr (.int (mlo i j)), .fr (.int (mhi i j)), s1, s2, s3] = some o /\ JE ((some o).bind fun o => match o with | .nx ρ' => yY (cF (.int 2)) ρ' | o => some o) = some (.int (yQ ts i j))
 | [], s1, s2, s3 => ⟨_, rfl, rfl⟩
 | t :: ts, s1, s2, s3 => by
  obtain ⟨o, h1, h2⟩ := YX h i j a b ts (.fr (.int t.1)) (.fr (.int t.2.1)) (.fr (.int t.2.2))
  rw [g0j]
  unfold y6 yQ
  by_cases c1 : t.1 = mlo i j
  ·by_cases c2 : t.2.1 = mhi i j
   ·exact ⟨.rt (.int t.2.2), by simp [tD, c1, c2], by simp [c1, c2]⟩
   ·refine ⟨o, ?_, by simpa [c2] using h2⟩
    simp [tD, c1, c2] at h1 ⊢
    exact h1
  ·refine ⟨o, ?_, by simpa [c1] using h2⟩
   simp [tD, c1] at h1 ⊢
   exact h1
theorem ZW (n : Nat) (ts : List T3) (i j : Int) : zx [zi n ts, .int i, .int j] = some (.int (yQ ts i j)) := by
 obtain ⟨o, h1, h2⟩ := YX (zi n ts) i j 0 0 ts .no .no .no
 have e : ixD (zi n ts) (.int 1) = some (.lst (ts.map tD)) := by unfold zi; exact ix1
 simp [zx, Zb, e, g0i] at h2 ⊢
 unfold mlo mhi at h1
 simp at h1
 rw [h1]
 exact h2
theorem UB (m : Int) : inD false (.int m) (.tup [.int 4, .int 6]) = some (.bl (decide (m = 4 \/ m = 6))) := by
 simp [inD, qh, dep, eqD]
 by_cases h : m = 4
 ·subst h; rfl
 ·by_cases h' : m = 6
  ·subst h'; rfl
  ·have a : (4 == m) = false := by simpa using fun z : (4 : Int) = m => h z.symm
   have b : (6 == m) = false := by simpa using fun z : (6 : Int) = m => h' z.symm
   simp [a, b, h, h']
theorem W9 (n : Nat) {ts : List T3} (hg : yP ts) (i j : Int) : xf [zi n ts, .int i, .int j] = some (gD (jR ts i j)) := by
 have t := ZW n ts i j
 have gt := vI hg i j
 unfold jR
 by_cases h : i = j
 ·simp [xf, vi, h, sizeLine_eq, gD]
 ·generalize yQ ts i j = m at t gt
  have mv := kD
  have cs : m = 0 \/ m = 2 \/ m = 3 \/ m = 4 \/ m = 5 \/ m = 6 := by omega
  by_cases h2 : j < i
  ·have h3 : ¬ i < j := by omega
   rcases cs with e | e | e | e | e | e <;> subst e
   ·have := mv (2, 0); simp [gD, yM] at this; simp [xf, vi, h, h2, h3, t, UB, sizeLine_eq, jf, g1v, zK, this, gD]
   ·have := mv (0, 0); simp [gD, yM] at this; simp [xf, vi, h, h2, h3, t, UB, sizeLine_eq, jf, g1v, zK, this, gD]
   ·have := mv (1, 0); simp [gD, yM] at this; simp [xf, vi, h, h2, h3, t, UB, sizeLine_eq, jf, g1v, zK, this, gD]
   ·simp [xf, vi, h, h2, h3, t, UB, sizeLine_eq, zK, gD]
   ·have := mv (0, 1); simp [gD, yM] at this; simp [xf, vi, h, h2, h3, t, UB, sizeLine_eq, jf, g1v, zK, this, gD]
   ·simp [xf, vi, h, h2, h3, t, UB, sizeLine_eq, zK, gD]
  ·have h3 : i < j := by omega
   rcases cs with e | e | e | e | e | e <;> subst e
   ·have := mv (2, 0); simp [gD, yM] at this; simp [xf, vi, h, h2, h3, t, UB, sizeLine_eq, jf, g1v, zK, this, gD]
   ·have := mv (0, 0); simp [gD, yM] at this; simp [xf, vi, h, h2, h3, t, UB, sizeLine_eq, jf, g1v, zK, this, gD]
   ·have := mv (1, 0); simp [gD, yM] at this; simp [xf, vi, h, h2, h3, t, UB, sizeLine_eq, jf, g1v, zK, this, gD]
   ·have := mv (2, 0); simp [gD, yM] at this; simp [xf, vi, h, h2, h3, t, UB, sizeLine_eq, jf, g1v, zK, this, gD]
   ·have := mv (0, 1); simp [gD, yM] at this; simp [xf, vi, h, h2, h3, t, UB, sizeLine_eq, jf, g1v, zK, this, gD]
   ·have := mv (3, 0); simp [gD, yM] at this; simp [xf, vi, h, h2, h3, t, UB, sizeLine_eq, jf, g1v, zK, this, gD]
theorem Vy {α : Type} (xs : List α) (k : Nat) : qS xs none (some (k : Int)) = xs.take k := by
 unfold qS
 rw [HT.sIx_none, HT.sIx_nat, List.drop_zero, Nat.sub_zero]
 by_cases h : k <= xs.length
 ·rw [g2p h]
 ·rw [g3d (by omega), g2c (g0o _), g2c (by omega)]
theorem Vz {α : Type} (xs : List α) (k : Nat) : qS xs (some (k : Int)) none = xs.drop k := by
 unfold qS
 rw [HT.sIx_none, HT.sIx_nat]
 by_cases h : k <= xs.length
 ·rw [g2p h, g2c (by simp)]
 ·rw [g3d (by omega), g2d (g0o _), g2d (by omega)]; simp
def kP : Nat -> List D -> List D
 | _, [] => []
 | k, d :: ds => .tup [.int (k : Int), d] :: kP (k + 1) ds
theorem Yt (ds : List D) : x4 ds = kP 0 ds := by
 have gen : ∀ (ds : List D) (k : Nat), (ds.zipIdx k).map (fun p => D.tup [.int (p.2 : Int), p.1]) = kP k ds := by
  intro ds
  induction ds with
  | nil => intro k; rfl
  | cons d ds ih => intro k; rw [g3b, g0j, ih]; rfl
 exact gen ds 0
theorem VE {ds : List D} {i : Nat} {d : D} (h : ds[i]? = some d) : ixD (.tup ds) (.int (i : Int)) = some d := qr h
theorem Jw {ds : List D} {i : Nat} {d : D} (h : ds[i]? = some d) : ixD (.lst ds) (.int (i : Int)) = some d := qr h
theorem Cd {r : List Gd} {i : Nat} (h : i < r.length) : ixD (xn r) (.int (i : Int)) = some (gD (r.getD i (0, 0))) := by
 unfold xn
 apply VE
 simp [g0l, h]
theorem VW {r : List Gd} {i : Nat} (x : Gd) (h : i < r.length) : (r.map gD).take i ++ gD x :: (r.map gD).drop (i + 1) = (r.set i x).map gD := by
 rw [List.map_set]
 apply g2o
 intro k
 rcases Nat.lt_trichotomy k i with hk | hk | hk
 ·rw [g1i (by simp; omega), g1a, if_neg (by omega), List.getElem?_take_of_lt hk]
 ·subst hk
  rw [g0z (by simp; omega)]
  simp [h, g2p (g2t h)]
 ·rw [g0z (by simp; omega), g1a, if_neg (by omega)]
  have : k - (List.take i (List.map gD r)).length = (k - i - 1) + 1 := by simp; omega
  rw [this, g0c, List.getElem?_drop]
  congr 1
  omega
noncomputable def Du : FS := y4 3 (z5 ur (zb (vF 3) (zb (z5 vc (zb (z5 xf (zb (vF 0) (zb (vF 1) (zb (vF 4) zB)))) (zb (vF 5) zB))) zB)))
theorem Vn (n : Nat) {ts : List T3} (hg : yP ts) (i : Nat) (R : D) : ∀ (r : List Gd) (k : Nat) (acc : Gd) (s4 s5 : Slot), ∃ s4' s5', y6 (Zs 2 (y7 (zQ 4) (y7 (zQ 5) YO))) Du (kP k (r.map gD)) [.fr (zi n ts), .fr (.int i), .fr R, .fr (gD acc), s4, s5] =
  some (.nx [.fr (zi n ts), .fr (.int i), .fr R, .fr (gD (y8 (zd ts i) k r acc)), s4', s5'])
 | [], k, acc, s4, s5 => ⟨s4, s5, rfl⟩
 | x :: r, k, acc, s4, s5 => by
  obtain ⟨s4', s5', e⟩ := Vn n hg i R r (k + 1) (yE acc (yO (zd ts i k) x)) (.fr (.int k)) (.fr (gD x))
  refine ⟨s4', s5', ?_⟩
  have p := W9 n hg (i : Int) (k : Int)
  have m := YZ x (qk ts i k)
  have a := Yd acc (yO (jR ts i k) x)
  rw [g0j]
  unfold kP y6
  simp [Du, p, m, a]
  unfold Du at e
  exact e
theorem Xq (n : Nat) {ts : List T3} (hg : yP ts) {i : Nat} {r : List Gd} (hi : i < r.length) (hr : r.length <= 100) : xX [zi n ts, .int i, xn r] = some (xn (vj (zd ts i) i r)) := by
 obtain ⟨s4', s5', e⟩ := Vn n hg i (xn r) r 0 (0, 0) .no .no
 have mi := kD (y8 (zd ts i) 0 r (0, 0))
 have pl := Yd (r.getD i (0, 0)) (yM (y8 (zd ts i) 0 r (0, 0)))
 have ra := Cd hi
 have z1 : i <= sizeLine := szl (by omega)
 have e0 : gD (0, 0) = .tup [.int 0, .int 0] := rfl
 rw [e0, <- Yt] at e
 have sl := VW (yE (r.getD i (0, 0)) (yM (y8 (zd ts i) 0 r (0, 0)))) hi
 have s1 : yg (vF 2) noP (exP (vF 1)) [.fr (zi n ts), .fr (.int i), .fr (xn r), .fr (gD (y8 (zd ts i) 0 r (0, 0))), s4', s5'] = some (.tup ((r.map gD).take i)) := by
  simp [xn, Vy]
 have s2 : yg (vF 2) (exP (zc yJ (vF 1) (cF (.int 1)))) noP [.fr (zi n ts), .fr (.int i), .fr (xn r), .fr (gD (y8 (zd ts i) 0 r (0, 0))), s4', s5'] = some (.tup ((r.map gD).drop (i + 1))) := by
  have := Vz (r.map gD) (i + 1)
  simp [xn] at this ⊢
  exact this
 have it : qI (vF 2) [.fr (zi n ts), .fr (.int i), .fr (xn r), .fr (.tup [.int 0, .int 0]), .no, .no] = some (x4 (r.map gD)) := by simp [xn]
 have a1 : ∀ x, yJ (.tup ((r.map gD).take i)) (.tup [x]) = some (.tup ((r.map gD).take i ++ [x])) := fun x => by
  show (if _ then _ else _) = _
  rw [if_pos (szl (by simp; omega))]
 have a2 : ∀ x, yJ (.tup ((r.map gD).take i ++ [x])) (.tup ((r.map gD).drop (i + 1))) = some (.tup ((r.map gD).take i ++ [x] ++ (r.map gD).drop (i + 1))) := fun x => by
  show (if _ then _ else _) = _
  rw [if_pos (szl (by simp; omega))]
 unfold xX jt
 simp only [zU, zt, g0j, g0q, g0d, g0g, g0i, g0r, g0p, zS, z9, yR, g0a, g0h, g0e, wg, it]
 unfold Du at e
 rw [e]
 simp only [g0a, zT, zl, s1, s2, wH, zm, zu, zy, yh, g0b, g0c, ra, mi, pl, g0d, g0g]
 rw [if_pos (szl (by decide))]
 simp only [g0a, a1, a2, z8]
 unfold xn vj
 rw [<- sl, g1g]
 rfl
theorem VT (n : Nat) (ts : List T3) (i : Nat) (hn : n <= 100) : vq [zi n ts, .int i] = some (xn (zX n i)) := by
 have e : ixD (zi n ts) (.int 0) = some (.int n) := by unfold zi; exact ix0
 have ra : vT [.int (n : Int)] = some (yk 0 n) := xO (by omega) (by omega)
 have c := K3 (f := ifF (blF (zc eqF (vF 0) (vF 1))) (cF (.tup [(.int 1), (.int 0)])) (cF (.tup [(.int 0), (.int 0)]))) (C := [.fr (.int (i : Int))]) (φ := fun j => gD (if j = i then (1, 0) else (0, 0))) (yk 0 n) 0 .no (fun k d hk => by
  obtain ⟨rfl, _⟩ := ZC hk
  by_cases h : k = i
  ·simp [h, gD]
  ·have : ¬ (k : Int) = (i : Int) := by omega
   simp [h, this, gD])
 have hz : n <= sizeLine := szl (by omega)
 have hl : (yk 0 (n : Int)).length = n := by rw [qB]; omega
 simp only [hl, g2a] at c
 unfold vq YK
 simp only [zU, zt, g0j, g0q, g0d, g0g, g0i, g0r, g0p, zT, zy, zm, wJ, U5, u6, zl, yh, yR, g0b, g0c, g0a, e, zu, ra, hl, if_pos hz, G5, Cb, c, g1w, JX, z8]
 simp only [xn, zX, g1o]
 rfl
def vG (ns : List Int) (k : Nat) : Int := ns.getD k 0
theorem uY (ns : List Int) (k : Nat) (hl : ns.length <= 63) : zI [.lst (ns.map D.int), .int k] = some (.int (vG ns k)) := by
 unfold vG
 by_cases h : k < ns.length
 ·have e : ixD (.lst (ns.map D.int)) (.int (k : Int)) = some (.int (ns.getD k 0)) := Jw (by simp [g0l, h])
  have h' : (k : Int) < (ns.length : Int) := by omega
  simp [zI, uj, h', e]
 ·have h' : ¬ ((k : Int) < (ns.length : Int)) := by omega
  simp [zI, uj, h', g0l, g1e (g3f.mp h)]
theorem eq2 (a b c d : Int) : eqF (.tup [.int a, .int b]) (.tup [.int c, .int d]) = some (.bl (decide (a = c /\ b = d))) := by
 simp [eqF, dep, qh, eqD, j2]
 by_cases h : a = c <;> by_cases h' : b = d <;> simp [h, h']
def zh (w : List Nat) : D := .tup (w.map fun (i : Nat) => .int (i : Int))
theorem xV {k n : Nat} (h : k < n) : yk (k : Int) (n : Int) = .int (k : Int) :: yk ((k + 1 : Nat) : Int) (n : Int) := by
 unfold yk
 have e1 : ((n : Int) - (k : Int)).toNat = ((n : Int) - ((k + 1 : Nat) : Int)).toNat + 1 := by omega
 rw [e1, g2b, g0j, g1o]
 refine congr (congrArg List.cons (by simp)) ?_
 apply g2l
 intro a _
 simp only [Function.comp]
 congr 1
 omega
theorem wZ {k n : Nat} (h : n <= k) : yk (k : Int) (n : Int) = [] := by
 unfold yk
 have e1 : ((n : Int) - (k : Int)).toNat = 0 := by omega
 rw [e1]
 rfl
theorem UG (i : Int) : vd [.int i] = some (.bl true) := by simp [vd, Zd, Wc, tyN]
theorem Vm (k : Int) (s3 : Slot) : ∀ (l : List D) (c : Int) (s2 : Slot), ∃ (c' : Int) (s2' : Slot), y6 (zQ 2) (y4 0 (zc wt (vF 0) (cF (.int 2147483648)))) l [.fr (.int c), .fr (.int k), s2, s3] = some (.nx [.fr (.int c'), .fr (.int k), s2', s3])
 | [], c, s2 => ⟨c, s2, rfl⟩
 | d :: l, c, s2 => by
  obtain ⟨c', s2', e⟩ := Vm k s3 l (c / 2147483648) (.fr d)
  refine ⟨c', s2', ?_⟩
  have f := xR (i := c) (show (0 : Int) < 2147483648 by decide) (by decide)
  unfold y6
  simp only [yN, g0a, g0h, g0e, z9, zl, yh, yR, g0b, g0c, f]
  exact e
theorem kC (c : Int) (k : Nat) (hk : k <= 1000) : ∃ z : Int, 0 <= z /\ z < 2147483648 /\ yX [.int c, .int k] = some (.int z) := by
 have p12 : Bz (.int 10) (.int 12) = some (.int (10 ^ 12)) := Hd ⟨by decide, by decide, QK (k := 8) (by decide) (by decide)⟩
 by_cases hc : (10 : Int) ^ 12 <= c
 ·have f12 := xR (i := c) (show (0 : Int) < 10 ^ 12 by decide) (by decide)
  have md := yA (i := (k : Int)) (show (0 : Int) < 61 by decide)
  have ra : vT [.int ((k : Int) % 61)] = some (yk 0 ((k : Int) % 61)) := xO (by omega) (by omega)
  obtain ⟨c', s2', e⟩ := Vm (k : Int) .no (yk 0 ((k : Int) % 61)) (c / 10 ^ 12 - 1) .no
  have md2 := yA (i := c') (show (0 : Int) < 2147483648 by decide)
  refine ⟨c' % 2147483648, by omega, by omega, ?_⟩
  simp only [yX, YM, zU, zt, g0j, g0q, g0d, g0g, Nat.reduceAdd, Nat.reduceSub, g0i, g0r, g0p, zS, yv, yd, zl, yh, yR, g0b, g0c, g0a, p12, G3, hc, decide_true, if_true, z9, f12, U0, g0e, g0h, wg, u6, zm, zu, md, ra]
  rw [e]
  simp only [g0a, zT, zl, yh, yR, g0b, md2, z8]
 ·have h0 : (0 : Int) <= (k : Int) * k := Int.mul_nonneg (by omega) (by omega)
  have h1 : (k : Int) * k <= 1000 * 1000 := Int.mul_le_mul (by omega) (by omega) (by omega) (by omega)
  have m1 : uz (.int (k : Int)) (.int (k : Int)) = _ := xW (uH (by omega) (by omega))
  have m2 : uz (.int ((k : Int) * k)) (.int 7919) = _ := xW (QE (by decide) (by decide))
  have m3 : ∀ x, uz (.int x) (.int 48271) = _ := fun x => xW (QE (by decide) (by decide))
  have m4 : ∀ x : Int, uz (.int (x % 2147483629)) (.int (x % 2147483629)) = _ := fun x => xW (uH (by omega) (by omega))
  have m5 : ∀ x y : Int, uz (.int (x % 2147483587)) (.int y) = _ := fun x y => xW (uH (by omega) (by omega))
  refine ⟨_, ?_, ?_, by simp only [yX, YM, zU, zt, g0j, g0q, g0d, g0g, Nat.reduceAdd, Nat.reduceSub, g0i, g0r, g0p, zS, yv, yd, zl, yh, yR, g0b, g0c, g0a, p12, G3, hc, decide_false, g0k, if_false, xv, z9, yA (show (0 : Int) < 1000003 by decide), m1, m2, ud, m3, yA (show (0 : Int) < 2147483629 by decide), g0h, g0e, zT, m4, yA (show (0 : Int) < 2147483587 by decide), m5, yA (show (0 : Int) < 2147483579 by decide), xR (show (0 : Int) < 7 by decide) (by decide), z8]; rfl⟩ <;> omega
def Mok (m : Int) : Prop := m = 0 \/ (2 <= m /\ m <= 6)
def VH (n : Nat) (ts : List T3) : Prop := ∀ t ∈ ts, (t.2.2 = 0 \/ (3 <= t.2.2 /\ t.2.2 <= 6)) /\ 0 <= t.1 /\ t.1 < t.2.1 /\ t.2.1 < n
theorem VH.good {n : Nat} {ts : List T3} (h : VH n ts) : yP ts := fun t ht => (h t ht).1
noncomputable def hB1 : FS := y4 7 (z5 yX (zb (z5 zI (zb (vF 0) (zb (zc yJ (cF (.int 1)) (vF 5)) zB))) (zb (zc yJ (zc uz (cF (.int 10)) (vF 5)) (vF 6)) zB)))
def hB2 : FS := y4 8 (zc ixD (y9 (Xs (zb (cF (.int 2)) (zb (cF (.int 3)) (zb (cF (.int 4)) (zb (cF (.int 5)) (zb (cF (.int 6)) (zb (cF (.int 0)) (zb (cF (.int 3)) (zb (cF (.int 2)) zB)))))))))) (zc vZ (vF 7) (cF (.int 8))))
def hB3 : FS := ifS (blF (zc eqF (zc vZ (vF 3) (cF (.int 3))) (cF (.int 1)))) (yq (y4 8 (zc ixD (y9 (Xs (zb (cF (.int 2)) (zb (cF (.int 3)) zB)))) (z5 GA (zb (zc eqF (vF 6) (zc yJ (vF 5) (cF (.int 1)))) zB)))) (ifS (WI (blF (zc eqF (vF 6) (zc yJ (vF 5) (cF (.int 1))))) (WI (blF (zc eqF (zc vZ (zc wt (vF 3) (cF (.int 3))) (cF (.int 3))) (cF (.int 1)))) (blF (zc eqF (vF 6) (zc Ga (vF 2) (cF (.int 1))))))) (y4 8 (zc ixD (y9 (Xs (zb (cF (.int 4)) (zb (cF (.int 5)) zB)))) (zc vZ (zc wt (vF 3) (cF (.int 9))) (cF (.int 2))))) nxF)) nxF
def hB4 : FS := ifS (WI (blF (zc eqF (zc vZ (vF 3) (cF (.int 3))) (cF (.int 2)))) (WI (blF (zc neF (vF 6) (zc yJ (vF 5) (cF (.int 1))))) (blF (zc gtD (zc vZ (zc wt (vF 7) (cF (.int 8))) (cF (.int 3))) (cF (.int 0)))))) (y4 8 (cF (.int 2))) nxF
def hB5 : FS := ifS (blF (zc neF (vF 8) (cF (.int 2)))) (uO 4 (tupF (zb (vF 5) (zb (vF 6) (zb (vF 8) zB))))) nxF
noncomputable def Q4 : FS := yq hB1 (yq hB2 (yq hB3 (yq hB4 hB5)))
section
variable (ns : List Int) (hl : ns.length <= 63) (most kind : Int) (n : Nat) (hn : n <= 6)
abbrev hR (L : List D) (i j : Nat) (s7 s8 : Slot) : Rho := [.fr (.lst (ns.map D.int)), .fr (.int most), .fr (.int n), .fr (.int kind), .ol L, .fr (.int i), .fr (.int j), s7, s8]
include hl hn in
theorem hb1 (L : List D) {i j : Nat} (hi : i <= 6) (hj : j <= 6) (s7 s8 : Slot) : ∃ d : Int, 0 <= d /\ hB1 (hR ns most kind n L i j s7 s8) = some (.nx (hR ns most kind n L i j (.fr (.int d)) s8)) := by
 obtain ⟨z, h0, _, e⟩ := kC (vG ns (1 + i)) (10 * i + j) (by omega)
 have ce := uY ns (1 + i) hl
 have e1 : (1 : Int) + (i : Int) = ((1 + i : Nat) : Int) := by omega
 have e2 : (10 : Int) * (i : Int) + (j : Int) = ((10 * i + j : Nat) : Int) := by omega
 refine ⟨z, h0, ?_⟩
 have m1 : uz (.int 10) (.int (i : Int)) = some (.int (10 * (i : Int))) := xW (uH (by decide) (by decide))
 simp only [hB1, hR, z9, zy, zm, zu, zl, yh, yR, g0b, g0c, g0a, ud, m1, e1, e2, ce, e, g0h, g0e]
theorem hb2 (L : List D) (i j : Nat) {d : Int} (s8 : Slot) : ∃ m, Mok m /\ hB2 (hR ns most kind n L i j (.fr (.int d)) s8) = some (.nx (hR ns most kind n L i j (.fr (.int d)) (.fr (.int m)))) := by
 have md := yA (i := d) (show (0 : Int) < 8 by decide)
 have cs : d % 8 = 0 \/ d % 8 = 1 \/ d % 8 = 2 \/ d % 8 = 3 \/ d % 8 = 4 \/ d % 8 = 5 \/ d % 8 = 6 \/ d % 8 = 7 := by omega
 unfold Mok
 rcases cs with c | c | c | c | c | c | c | c
 ·exact ⟨2, by decide, by simp [hB2, hR, md, c, sizeLine_eq, ixD, atI, ixN]⟩
 ·exact ⟨3, by decide, by simp [hB2, hR, md, c, sizeLine_eq, ixD, atI, ixN]⟩
 ·exact ⟨4, by decide, by simp [hB2, hR, md, c, sizeLine_eq, ixD, atI, ixN]⟩
 ·exact ⟨5, by decide, by simp [hB2, hR, md, c, sizeLine_eq, ixD, atI, ixN]⟩
 ·exact ⟨6, by decide, by simp [hB2, hR, md, c, sizeLine_eq, ixD, atI, ixN]⟩
 ·exact ⟨0, by decide, by simp [hB2, hR, md, c, sizeLine_eq, ixD, atI, ixN]⟩
 ·exact ⟨3, by decide, by simp [hB2, hR, md, c, sizeLine_eq, ixD, atI, ixN]⟩
 ·exact ⟨2, by decide, by simp [hB2, hR, md, c, sizeLine_eq, ixD, atI, ixN]⟩
theorem hb3 (L : List D) (i j : Nat) (s7 : Slot) {m : Int} (hm : Mok m) : ∃ m', Mok m' /\ hB3 (hR ns most kind n L i j s7 (.fr (.int m))) = some (.nx (hR ns most kind n L i j s7 (.fr (.int m')))) := by
 have md := yA (i := kind) (show (0 : Int) < 3 by decide)
 have f3 := xR (i := kind) (show (0 : Int) < 3 by decide) (by decide)
 have f9 := xR (i := kind) (show (0 : Int) < 9 by decide) (by decide)
 have md3 := yA (i := kind / 3) (show (0 : Int) < 3 by decide)
 have md9 := yA (i := kind / 9) (show (0 : Int) < 2 by decide)
 by_cases c : kind % 3 = 1
 ·by_cases c1 : (j : Int) = (i : Int) + 1
  ·by_cases c2 : kind / 3 % 3 = 1 /\ (j : Int) = (n : Int) - 1
   ·obtain ⟨c2, c3⟩ := c2
    rcases (by omega : kind / 9 % 2 = 0 \/ kind / 9 % 2 = 1) with c4 | c4
    ·refine ⟨4, by unfold Mok; decide, ?_⟩
     have c5 : (i : Int) + 1 = (n : Int) - 1 := by omega
     simp [hB3, hR, md, c, c1, c5, f3, md3, c2, f9, md9, c4, sizeLine_eq, ixD, atI, ixN]
    ·refine ⟨5, by unfold Mok; decide, ?_⟩
     have c5 : (i : Int) + 1 = (n : Int) - 1 := by omega
     simp [hB3, hR, md, c, c1, c5, f3, md3, c2, f9, md9, c4, sizeLine_eq, ixD, atI, ixN]
   ·refine ⟨3, by unfold Mok; decide, ?_⟩
    by_cases c3 : kind / 3 % 3 = 1
    ·have c4 : ¬ (i : Int) + 1 = (n : Int) - 1 := fun z => c2 ⟨c3, by omega⟩
     simp [hB3, hR, md, c, c1, c4, f3, md3, c3, sizeLine_eq, ixD, atI, ixN]
    ·simp [hB3, hR, md, c, c1, f3, md3, c3, sizeLine_eq, ixD, atI, ixN]
  ·refine ⟨2, by unfold Mok; decide, ?_⟩
   simp [hB3, hR, md, c, c1, sizeLine_eq, ixD, atI, ixN]
 ·exact ⟨m, hm, by simp [hB3, hR, md, c]⟩
theorem hb4 (L : List D) (i j : Nat) {d m : Int} (hm : Mok m) : ∃ m', Mok m' /\ hB4 (hR ns most kind n L i j (.fr (.int d)) (.fr (.int m))) = some (.nx (hR ns most kind n L i j (.fr (.int d)) (.fr (.int m')))) := by
 have md := yA (i := kind) (show (0 : Int) < 3 by decide)
 have f8 := xR (i := d) (show (0 : Int) < 8 by decide) (by decide)
 have md8 := yA (i := d / 8) (show (0 : Int) < 3 by decide)
 by_cases c : kind % 3 = 2
 ·by_cases c1 : (j : Int) = (i : Int) + 1
  ·exact ⟨m, hm, by simp [hB4, hR, md, c, c1]⟩
  ·by_cases c2 : 0 < d / 8 % 3
   ·exact ⟨2, by unfold Mok; decide, by simp [hB4, hR, md, c, c1, f8, md8, c2]⟩
   ·exact ⟨m, hm, by simp [hB4, hR, md, c, c1, f8, md8, c2]⟩
 ·exact ⟨m, hm, by simp [hB4, hR, md, c]⟩
theorem hb5 {ts : List T3} {i j : Nat} (s7 : Slot) {m : Int} (hm : Mok m) (ht : VH n ts) (hi : i < j) (hj : j < n) (hlen : ts.length < 1000) : ∃ ts', VH n ts' /\ ts'.length <= ts.length + 1 /\ hB5 (hR ns most kind n (ts.map tD) i j s7 (.fr (.int m))) = some (.nx (hR ns most kind n (ts'.map tD) i j s7 (.fr (.int m)))) := by
 by_cases c : m = 2
 ·exact ⟨ts, ht, by omega, by simp [hB5, hR, c]⟩
 ·refine ⟨ts ++ [((i : Int), (j : Int), m)], fun t h => ?_, by simp, ?_⟩
  ·rcases g1h.mp h with h | h
   ·exact ht t h
   ·have : t = ((i : Int), (j : Int), m) := by simpa using h
    subst this
    unfold Mok at hm
    exact ⟨by simp only []; omega, by simp only []; omega, by simp only []; omega, by simp only []; omega⟩
  ·have z : ts.length < sizeLine := vJ (by omega)
   have z3 : (3 : Nat) <= sizeLine := szl (by decide)
   simp [hB5, hR, c, z, z3, tD]
include hl hn in
theorem Q2 {ts : List T3} {i j : Nat} (s7 s8 : Slot) (ht : VH n ts) (hi : i < j) (hj : j < n) (hlen : ts.length < 1000) : ∃ ts' s7' s8', VH n ts' /\ ts'.length <= ts.length + 1 /\ Q4 (hR ns most kind n (ts.map tD) i j s7 s8) = some (.nx (hR ns most kind n (ts'.map tD) i j s7' s8')) := by
 obtain ⟨d, _, e1⟩ := hb1 ns hl most kind n hn (ts.map tD) (i := i) (j := j) (by omega) (by omega) s7 s8
 obtain ⟨m, m1, e2⟩ := hb2 ns most kind n (ts.map tD) i j (d := d) s8
 obtain ⟨m', m2, e3⟩ := hb3 ns most kind n (ts.map tD) i j (.fr (.int d)) m1
 obtain ⟨m'', m3, e4⟩ := hb4 ns most kind n (ts.map tD) i j (d := d) m2
 obtain ⟨ts', h1, h2, e5⟩ := hb5 ns most kind n (.fr (.int d)) m3 ht hi hj hlen
 refine ⟨ts', .fr (.int d), .fr (.int m''), h1, h2, ?_⟩
 unfold Q4
 simp only [zS, e1, e2, e3, e4, e5, g0a]
include hl hn in
theorem GE {i : Nat} (hi : i < n) : ∀ (k j : Nat) (ts : List T3) (s6 s7 s8 : Slot), j + k = n -> i < j -> VH n ts -> ts.length + k < 1000 -> ∃ ts' s6' s7' s8', VH n ts' /\ ts'.length <= ts.length + k ∧
  y6 (zQ 6) Q4 (yk (j : Int) (n : Int)) [.fr (.lst (ns.map D.int)), .fr (.int most), .fr (.int n), .fr (.int kind), .ol (ts.map tD), .fr (.int i), s6, s7, s8] = some (.nx [.fr (.lst (ns.map D.int)), .fr (.int most), .fr (.int n), .fr (.int kind), .ol (ts'.map tD), .fr (.int i), s6', s7', s8'])
 | 0, j, ts, s6, s7, s8, h, hij, ht, hlen => by
  rw [wZ (by omega)]
  exact ⟨ts, s6, s7, s8, ht, by omega, rfl⟩
 | k + 1, j, ts, s6, s7, s8, h, hij, ht, hlen => by
  obtain ⟨ts1, a7, a8, h1, h2, e1⟩ := Q2 ns hl most kind n hn (i := i) (j := j) s7 s8 ht hij (by omega) (by omega)
  obtain ⟨ts2, b6, b7, b8, h3, h4, e2⟩ := GE hi k (j + 1) ts1 (.fr (.int j)) a7 a8 (by omega) (by omega) h1 (by omega)
  refine ⟨ts2, b6, b7, b8, h3, by omega, ?_⟩
  rw [xV (by omega)]
  unfold y6
  simp only [yN, g0a, g0h, g0e]
  rw [e1]
  exact e2
include hl hn in
theorem GC : ∀ (k i : Nat) (ts : List T3) (s5 s6 s7 s8 : Slot), i + k = n -> VH n ts -> ts.length + k * 6 < 900 -> ∃ ts' s5' s6' s7' s8', VH n ts' /\ ts'.length <= ts.length + k * 6 ∧
  y6 (zQ 5) (Zj (Ce (zb (zc yJ (vF 5) (cF (.int 1))) (zb (vF 2) zB))) (zQ 6) Q4) (yk (i : Int) (n : Int)) [.fr (.lst (ns.map D.int)), .fr (.int most), .fr (.int n), .fr (.int kind), .ol (ts.map tD), s5, s6, s7, s8] =
   some (.nx [.fr (.lst (ns.map D.int)), .fr (.int most), .fr (.int n), .fr (.int kind), .ol (ts'.map tD), s5', s6', s7', s8'])
 | 0, i, ts, s5, s6, s7, s8, h, ht, hlen => by
  rw [wZ (by omega)]
  exact ⟨ts, s5, s6, s7, s8, ht, by omega, rfl⟩
 | k + 1, i, ts, s5, s6, s7, s8, h, ht, hlen => by
  obtain ⟨ts1, a6, a7, a8, h1, h2, e1⟩ := GE ns hl most kind n hn (i := i) (by omega) (n - (i + 1)) (i + 1) ts s6 s7 s8 (by omega) (by omega) ht (by omega)
  obtain ⟨ts2, b5, b6, b7, b8, h3, h4, e2⟩ := GC k (i + 1) ts1 (.fr (.int i)) a6 a7 a8 (by omega) h1 (by omega)
  have rg : jD [.int ((i : Int) + 1), .int (n : Int)] = some (yk ((i + 1 : Nat) : Int) (n : Int)) := by
   have e0 : ((i : Int) + 1) = ((i + 1 : Nat) : Int) := by omega
   rw [e0]
   exact Xc (by omega) (by omega) (by omega) (by omega)
  refine ⟨ts2, b5, b6, b7, b8, h3, by omega, ?_⟩
  rw [xV (by omega)]
  unfold y6
  simp only [yN, g0a, g0h, g0e, wg, BV, zm, zl, yh, yR, zu, g0b, g0c, ud, rg]
  rw [e1]
  exact e2
end
theorem VH.rev {n : Nat} {ts : List T3} (h : VH n ts) : VH n ts.reverse := fun t ht => h t (by simpa using ht)
theorem Q0 (ns : List Int) (hl : ns.length <= 63) (most : Nat) (h1 : 1 <= most) (h2 : most <= 6) : ∃ (n : Nat) (ts : List T3), 1 <= n /\ n <= most /\ VH n ts /\ ts.length <= 36 /\ ve [.lst (ns.map D.int), .int most] = some (zi n ts) := by
 have c0 := uY ns 0 hl
 obtain ⟨kind, _, _, k1⟩ := kC (vG ns 0) 1 (by decide)
 have md := yA (i := vG ns 0) (show (0 : Int) < (most : Int) by omega)
 have b1 := Int.emod_nonneg (vG ns 0) (show (most : Int) ≠ 0 by omega)
 have b2 := Int.emod_lt_of_pos (vG ns 0) (show (0 : Int) < (most : Int) by omega)
 obtain ⟨n, hn⟩ : ∃ n : Nat, 1 + vG ns 0 % (most : Int) = (n : Int) := ⟨(1 + vG ns 0 % (most : Int)).toNat, by omega⟩
 have hn1 : 1 <= n := by omega
 have hn6 : n <= most := by omega
 obtain ⟨ts, a5, a6, a7, a8, q1, q2, e⟩ := GC ns hl (most : Int) kind n (by omega) n 0 [] .no .no .no .no (by omega) (fun t ht => by cases ht) (by simp; omega)
 have rg : vT [.int (n : Int)] = some (yk ((0 : Nat) : Int) (n : Int)) := xO (by omega) (by omega)
 have f27 := xR (i := kind) (show (0 : Int) < 27 by decide) (by decide)
 have md2 := yA (i := kind / 27) (show (0 : Int) < 2 by decide)
 have z0 : 0 <= sizeLine := g2e _
 have z2 : 0 + 1 + 1 <= sizeLine := szl (by decide)
 have c0' : zI [.lst (ns.map D.int), .int 0] = some (.int (vG ns 0)) := c0
 have k1' : yX [.int (vG ns 0), .int 1] = some (.int kind) := k1
 have hlen : ts.length <= 36 := by simp at q2; omega
 unfold Q4 hB1 hB2 hB3 hB4 hB5 at e
 unfold ve Ze
 by_cases c : kind / 27 % 2 = 1
 ·refine ⟨n, ts.reverse, hn1, hn6, q1.rev, by simpa using hlen, ?_⟩
  simp only [zU, zt, g0j, g0q, g0d, g0g, Nat.reduceAdd, Nat.reduceSub, g0i, g0r, g0p, zS, z9, zl, yR, zy, zm, yh, zu, g0b, g0c, g0a, c0', md, ud, hn, g0h, g0e, k1', Xa, Y9, if_pos z0, wg, u6, rg]
  rw [g0q] at e
  rw [e]
  simp only [g0a, yv, yd, zl, yh, yR, g0b, g0c, f27, md2, wj, c, decide_true, if_true, Xa, BX, FQ, Ya, G0, g0h, g0e, U3, G4, zT, wH, zm, zu, g0d, g0g, if_pos z2, z8]
  simp [zi]
 ·refine ⟨n, ts, hn1, hn6, q1, hlen, ?_⟩
  simp only [zU, zt, g0j, g0q, g0d, g0g, Nat.reduceAdd, Nat.reduceSub, g0i, g0r, g0p, zS, z9, zl, yR, zy, zm, yh, zu, g0b, g0c, g0a, c0', md, ud, hn, g0h, g0e, k1', Xa, Y9, if_pos z0, wg, u6, rg]
  rw [g0q] at e
  rw [e]
  simp only [g0a, yv, yd, zl, yh, yR, g0b, g0c, f27, md2, wj, c, decide_false, g0k, if_false, xv, g0h, g0e, U3, G4, zT, wH, zm, zu, g0d, g0g, if_pos z2, z8]
  simp [zi]
theorem Bh (r : List Gd) : dep (xn r) <= 100 := by
 have : qh (r.map gD) <= 1 := Yz fun d hd => by
  obtain ⟨x, _, rfl⟩ := g2q.mp hd
  simp [gD, dep, qh]
 unfold xn dep
 omega
noncomputable def wB : FS := y4 5 (zc yJ (vF 5) (tupF (zb (zc vZ (z5 yX (zb (z5 zI (zb (vF 0) (zb (zc yJ (vF 2) (vF 6)) zB))) (zb (zc yJ (zc uz (cF (.int 7)) (vF 6)) (cF (.int 3))) zB))) (zc ixD (vF 1) (cF (.int 0)))) zB)))
theorem VL (w : List Nat) (i : Nat) (h : w.length <= 90) : yJ (zh w) (.tup [.int i]) = some (zh (w ++ [i])) := by
 show (if _ then _ else _) = _
 rw [if_pos (szl (by simp; omega))]
 simp [zh]
theorem j8 (ns : List Int) (hl : ns.length <= 63) (n : Nat) (ts : List T3) (hn : 1 <= n) (first : Nat) (many : Nat) (s4 : Slot) (hm : many <= 60) : ∀ (m k : Nat) (w : List Nat) (s6 : Slot), k + m = many -> w.length = k -> (∀ i ∈ w, i < n) -> ∃ (w' : List Nat) (s6' : Slot), w'.length = many /\ (∀ i ∈ w', i < n) ∧
  y6 (zQ 6) wB (yk (k : Int) (many : Int)) [.fr (.lst (ns.map D.int)), .fr (zi n ts), .fr (.int first), .fr (.int many), s4, .fr (zh w), s6] = some (.nx [.fr (.lst (ns.map D.int)), .fr (zi n ts), .fr (.int first), .fr (.int many), s4, .fr (zh w'), s6'])
 | 0, k, w, s6, h, hw, hi => by
  rw [wZ (by omega)]
  exact ⟨w, s6, by omega, hi, rfl⟩
 | m + 1, k, w, s6, h, hw, hi => by
  have cv := uY ns (first + k) hl
  obtain ⟨z, h0, _, mv⟩ := kC (vG ns (first + k)) (7 * k + 3) (by omega)
  have en : ixD (zi n ts) (.int 0) = some (.int n) := by unfold zi; exact ix0
  have md := yA (i := z) (show (0 : Int) < (n : Int) by omega)
  have b1 := Int.emod_nonneg z (show (n : Int) ≠ 0 by omega)
  have b2 := Int.emod_lt_of_pos z (show (0 : Int) < (n : Int) by omega)
  obtain ⟨i, ei⟩ : ∃ i : Nat, z % (n : Int) = (i : Int) := ⟨(z % (n : Int)).toNat, by omega⟩
  rw [ei] at md
  have wd := VL w i (by omega)
  have m7 : uz (.int 7) (.int (k : Int)) = some (.int (7 * (k : Int))) := xW (uH (by decide) (by decide))
  have e1 : (first : Int) + (k : Int) = ((first + k : Nat) : Int) := by omega
  have e2 : (7 : Int) * (k : Int) + 3 = ((7 * k + 3 : Nat) : Int) := by omega
  have z1 : 0 + 1 <= sizeLine := szl (by decide)
  obtain ⟨w', s6', q1, q2, e⟩ := j8 ns hl n ts hn first many s4 hm m (k + 1) (w ++ [i]) (.fr (.int k)) (by omega) (by simp; omega) (fun j hj => by
   rcases g1h.mp hj with hj | hj
   ·exact hi j hj
   ·have : j = i := by simpa using hj
    omega)
  refine ⟨w', s6', q1, q2, ?_⟩
  rw [xV (by omega)]
  unfold y6 wB
  simp only [yN, g0a, g0h, g0e, z9, zl, yh, yR, g0b, g0c, wH, zm, zu, zy, ud, m7, e1, e2, cv, mv, en, md, g0d, g0g, if_pos z1, wd]
  unfold wB at e
  exact e
theorem JI (ns : List Int) (hl : ns.length <= 63) (n : Nat) (ts : List T3) (hn : 1 <= n) (first many : Nat) (hm : many <= 60) : ∃ w : List Nat, w.length <= many /\ (∀ i ∈ w, i < n) /\ vv [.lst (ns.map D.int), zi n ts, .int first, .int many] = some (zh w) := by
 have cv := uY ns first hl
 obtain ⟨z, h0, _, mv⟩ := kC (vG ns first) 60 (by decide)
 have mv' : yX [.int (vG ns first), .int 60] = some (.int z) := mv
 have md := yA (i := z) (show (0 : Int) < 3 by decide)
 have f3 := xR (i := z) (show (0 : Int) < 3 by decide) (by decide)
 have z0 : 0 <= sizeLine := g2e _
 have e0 : D.tup [] = zh [] := rfl
 by_cases c : z % 3 = 1
 ·have b1 := Int.emod_nonneg (z / 3) (show (many : Int) + 1 ≠ 0 by omega)
  have b2 := Int.emod_lt_of_pos (z / 3) (show (0 : Int) < (many : Int) + 1 by omega)
  have mm := yA (i := z / 3) (show (0 : Int) < (many : Int) + 1 by omega)
  obtain ⟨k, ek⟩ : ∃ k : Nat, z / 3 % ((many : Int) + 1) = (k : Int) := ⟨(z / 3 % ((many : Int) + 1)).toNat, by omega⟩
  rw [ek] at mm
  have ra : vT [.int (k : Int)] = some (yk ((0 : Nat) : Int) (k : Int)) := xO (by omega) (by omega)
  obtain ⟨w, s6, q1, q2, e⟩ := j8 ns hl n ts hn first k (.fr (.int z)) (by omega) k 0 [] .no (by omega) rfl (by simp)
  refine ⟨w, by omega, q2, ?_⟩
  simp only [vv, j5, zU, zt, g0j, g0q, g0d, g0g, Nat.reduceAdd, Nat.reduceSub, g0i, g0r, g0p, zS, z9, zy, zm, yh, zu, yR, g0b, g0c, g0a, cv, mv', g0h, g0e, yv, yd, zl, md, c, wj, decide_true, if_true, f3, ud, mm, wH, if_pos z0, wg, u6, ra, e0]
  unfold wB at e
  rw [e]
  simp only [g0a, zT, yh, g0b, g0c, z8]
 ·have ra : vT [.int (many : Int)] = some (yk ((0 : Nat) : Int) (many : Int)) := xO (by omega) (by omega)
  obtain ⟨w, s6, q1, q2, e⟩ := j8 ns hl n ts hn first many (.fr (.int z)) (by omega) many 0 [] .no (by omega) rfl (by simp)
  refine ⟨w, by omega, q2, ?_⟩
  simp only [vv, j5, zU, zt, g0j, g0q, g0d, g0g, Nat.reduceAdd, Nat.reduceSub, g0i, g0r, g0p, zS, z9, zy, zm, yh, zu, yR, g0b, g0c, g0a, cv, mv', g0h, g0e, yv, yd, zl, md, c, wj, decide_false, g0k, if_false, xv, wH, if_pos z0, wg, u6, ra, e0]
  unfold wB at e
  rw [e]
  simp only [g0a, zT, yh, g0b, g0c, z8]
theorem Xd (n : Nat) {ts : List T3} (hg : yP ts) (W : D) (hn : n <= 100) : ∀ (l : List Nat) (r : List Gd) (s3 : Slot), r.length = n -> (∀ i ∈ l, i < n) -> ∃ s3', y6 (zQ 3) (y4 2 (z5 xX (zb (vF 0) (zb (vF 3) (zb (vF 2) zB))))) (l.map fun (i : Nat) => .int (i : Int)) [.fr (zi n ts), .fr W, .fr (xn r), s3] =
  some (.nx [.fr (zi n ts), .fr W, .fr (xn (l.foldl (fun r i => vj (zd ts i) i r) r)), s3'])
 | [], r, s3, hr, hl => ⟨s3, rfl⟩
 | i :: l, r, s3, hr, hl => by
  have hi := hl i g0s
  have m := Xq n hg (i := i) (r := r) (by omega) (by omega)
  obtain ⟨t3, e'⟩ := Xd n hg W hn l (vj (zd ts i) i r) (.fr (.int i)) (by rw [z6, hr]) (fun j hj => hl j (g0n _ hj))
  refine ⟨t3, ?_⟩
  rw [g0j]
  unfold y6
  simp only [yN, g0a, g0h, g0e, z9, zy, zm, zu, yh, g0b, g0c, m]
  exact e'
theorem J8 (n : Nat) {ts : List T3} (hg : yP ts) {w : List Nat} {r : List Gd} (hn : n <= 100) (hr : r.length = n) (hw : ∀ i ∈ w, i < n) : Xx [zi n ts, zh w, xn r] = some (xn (zR (zd ts) w r)) := by
 obtain ⟨t3, e⟩ := Xd n hg (zh w) hn w.reverse r .no hr (fun i hi => hw i (by simpa using hi))
 have er : (w.map fun (i : Nat) => D.int (i : Int)).reverse = w.reverse.map fun (i : Nat) => D.int (i : Int) := by simp
 unfold Xx Bv
 simp only [zU, zt, g0j, g0q, g0d, g0g, Nat.reduceAdd, Nat.reduceSub, g0i, g0r, g0p, zS, wg, J0, yh, g0b, g0c, g0a, zh, er]
 unfold zh at e
 rw [e]
 simp only [g0a, zT, yh, g0b, g0c, z8, zR, List.foldl_reverse]
def qg (ts : List T3) (n : Nat) (w : List Nat) : List (List Gd) := (g1f n).map fun i => zR (zd ts) w (zX n i)
def vC (rs : List (List Gd)) : D := .lst (rs.map xn)
theorem ue (n : Nat) {ts : List T3} (hg : yP ts) {w : List Nat} (hn : n <= 100) (hw : ∀ i ∈ w, i < n) : xq [zi n ts, zh w] = some (vC (qg ts n w)) := by
 have e : ixD (zi n ts) (.int 0) = some (.int n) := by unfold zi; exact ix0
 have ra : vT [.int (n : Int)] = some (yk ((0 : Nat) : Int) n) := xO (by omega) (by omega)
 have c := K3 (f := z5 Xx (zb (vF 1) (zb (vF 2) (zb (z5 vq (zb (vF 1) (zb (vF 0) zB))) zB)))) (C := [.fr (zi n ts), .fr (zh w)]) (φ := fun i => xn (zR (zd ts) w (zX n i))) (yk ((0 : Nat) : Int) n) 0 .no (fun k d hk => by
  obtain ⟨rfl, _⟩ := ZC hk
  have sv := VT n ts k hn
  have lv := J8 n hg hn (zg n k) hw
  have e2 : ((0 : Nat) : Int) + (k : Int) = (k : Int) := by omega
  simp only [zy, zm, zu, yh, g0c, g0b, g0a, e2, sv, lv, g2a])
 have hl : (yk ((0 : Nat) : Int) (n : Int)).length = n := by rw [qB]; omega
 have hi : W6 (zb (zc ixD (vF 0) (cF (.int 0))) zB) [.fr (zi n ts), .fr (zh w)] = some (yk ((0 : Nat) : Int) n) := by
  simp only [u6, zm, zl, yh, g0b, yR, g0a, e, zu, ra]
 have hc := ui (n := 1) (caps := [0, 1]) (γ := zQ 0) (ft := ttF) (f := z5 Xx (zb (vF 1) (zb (vF 2) (zb (z5 vq (zb (vF 1) (zb (vF 0) zB))) zB)))) hi (by rw [hl]; exact szl (by omega))
 have cs : uh 1 [0, 1] [.fr (zi n ts), .fr (zh w)] = [.no, .fr (zi n ts), .fr (zh w)] := rfl
 rw [cs, c, hl] at hc
 simp only [xq, YN, zU, zt, g0j, g0q, g0d, g0g, Nat.reduceAdd, Nat.reduceSub, g0i, g0t, zT, wJ, hc, g0a, g1w, z8, g2a]
 simp only [vC, qg, g1o, Function.comp_def]
theorem YR (n : Int) : yt [.int n] = some (.int (M02.wsgn n)) := by
 unfold M02.wsgn
 by_cases h : 0 < n
 ·simp [yt, wz, h]
 ·by_cases h2 : n < 0
  ·simp [yt, wz, h, h2]
  ·simp [yt, wz, h, h2]
theorem UE (n : Int) : -1 <= M02.wsgn n /\ M02.wsgn n <= 1 := by rcases M02.wsgn_cases n with ⟨_, e⟩ | ⟨_, e⟩ | ⟨_, e⟩ <;> rw [e] <;> decide
theorem WY {x : Gd} (ha : x.1.natAbs < big) (hb : x.2.natAbs < big) : vY [gD x] = some (.int (Y5 x)) := by
 obtain ⟨a, b⟩ := x
 simp only at ha hb
 have m1 := xW (kz ha ha)
 have m2 := xW (kz ha hb)
 have m3 := xW (kz hb hb)
 have wa := UE a
 have wb := UE b
 have m4 : uz (.int (M02.wsgn a)) (.int (M02.wsgn b)) = _ := xW (uH (by omega) (by omega))
 have m5 : ∀ z, uz (.int (M02.wsgn a)) (.int z) = _ := fun z => xW (uH (by omega) (by omega))
 unfold Y5 M02.sgn
 by_cases h : 0 <= M02.wsgn a * M02.wsgn b
 ·simp [vY, VI, gD, ix0, ix1, YR, h, m4]
 ·simp [vY, VI, gD, ix0, ix1, YR, h, m4, m5, m1, m2, m3]
def Fit (r : List Gd) : Prop := ∀ x ∈ r, x.1.natAbs < big /\ x.2.natAbs < big
def GF (s : Int) (r : List Gd) : Bool := r.any fun x => decide (Y5 x = s)
theorem jY (neg : Bool) (s : Int) (r : List Gd) : inD neg (.int s) (.lst ((r.map Y5).map D.int)) = some (.bl (xor neg (GF s r))) := by
 have hd : qh ((r.map Y5).map D.int) <= 100 := g1y (Yz (k := 0) fun d hd => by
  obtain ⟨x, _, rfl⟩ := g2q.mp hd
  simp [dep]) (by decide)
 show (if _ then _ else _) = _
 rw [if_pos hd]
 congr 3
 unfold GF
 rw [g1o, List.any_map]
 rfl
theorem qF {α β : Type} (f : α -> β) (l : List α) (z : α) : (g1f l.length).map (fun k => f (l.getD k z)) = l.map f := by
 apply g2o
 intro k
 rw [g0w, g0w]
 by_cases h : k < l.length
 ·rw [List.getElem?_range h]
  simp [g0l, h]
 ·rw [g1e (by simpa using h), g1e (by omega)]
  rfl
theorem Zu {r : List Gd} (hr : r.length <= 100) {g : List D -> Option D} (hg : ∀ x ∈ r, g [gD x] = some (.int (Y5 x))) : xh (zQ 0) ttF (z5 g (zb (vF 0) zB)) (r.map gD) [.no] = some ((r.map Y5).map D.int) := by
 have c := K3 (f := z5 g (zb (vF 0) zB)) (C := []) (φ := fun k => D.int (Y5 (r.getD k (0, 0)))) (r.map gD) 0 .no (fun k d hk => by
  rw [g0w] at hk
  cases e : r[k]? with
  | none => rw [e] at hk; cases hk
  | some x =>
   rw [e] at hk
   cases hk
   have := hg x (g2g e)
   simp only [zy, zm, zu, yh, g0b, g0a, this, g2a, g0l, e, g3c])
 rw [c]
 have := qF (fun x => D.int (Y5 x)) r (0, 0)
 simp only [g1l, g2a, g1o] at this ⊢
 rw [this]
 rfl
def Fz (r : List Gd) : Bool := GF 1 r && !GF (-1) r
def Fx (r : List Gd) : Bool := GF (-1) r && !GF 1 r
theorem Jv {r : List Gd} (hr : r.length <= 100) (hf : Fit r) : xY [xn r] = some (.bl (Fx r)) := by
 have c := Zu hr (g := vY) fun x hx => WY (hf x hx).1 (hf x hx).2
 have i1 := jY false (-1) r
 have i2 := jY true 1 r
 have hi : yj (vF 0) [.fr (xn r), .no] = some (r.map gD) := rfl
 have hc := ui (n := 1) (caps := []) (γ := zQ 0) (ft := ttF) (f := z5 vY (zb (vF 0) zB)) hi (szl (by simpa using hr))
 have cs : uh 1 [] [.fr (xn r), .no] = [.no] := rfl
 rw [cs, c] at hc
 simp only [xY, jw, zU, zt, g0j, g0q, g0d, g0g, Nat.reduceAdd, Nat.reduceSub, g0i, g0r, g0p, zS, z9, wJ, hc, g1w, g0a, g0h, g0e, zT, U6, zl, yR, yh, g0b, g0c, i1, i2, Ya, G0, Bool.false_xor, Bool.true_xor]
 unfold Fx
 cases GF (-1) r <;> rfl
theorem JA {r : List Gd} (hr : r.length <= 100) (hf : Fit r) : xZ [xn r] = some (.bl (Fz r)) := by
 have c := Zu hr (g := vY) fun x hx => WY (hf x hx).1 (hf x hx).2
 have i1 := jY false 1 r
 have i2 := jY true (-1) r
 have hi : yj (vF 0) [.fr (xn r), .no] = some (r.map gD) := rfl
 have hc := ui (n := 1) (caps := []) (γ := zQ 0) (ft := ttF) (f := z5 vY (zb (vF 0) zB)) hi (szl (by simpa using hr))
 have cs : uh 1 [] [.fr (xn r), .no] = [.no] := rfl
 rw [cs, c] at hc
 simp only [xZ, jx, zU, zt, g0j, g0q, g0d, g0g, Nat.reduceAdd, Nat.reduceSub, g0i, g0r, g0p, zS, z9, wJ, hc, g1w, g0a, g0h, g0e, zT, U6, zl, yR, yh, g0b, g0c, i1, i2, Ya, G0, Bool.false_xor, Bool.true_xor]
 unfold Fz
 cases GF 1 r <;> rfl
theorem Kw {c : Gd} (hc : -3 <= c.1 /\ c.1 <= 2 /\ -1 <= c.2 /\ c.2 <= 0) {r s : List Gd} (hr : r.length = s.length) (hl : r.length <= 100) : wq [xn r, gD c, xn s] = some (xn (Yb r (rsc (yM c) s))) := by
 have hz : WR (r.map gD) (s.map gD) = WR (r.map gD) (s.map gD) := rfl
 have lz : (WR (r.map gD) (s.map gD)).length = r.length := by rw [j6]; simp; omega
 have cm := Bn (f := z5 ur (zb (vF 0) (zb (z5 wA (zb (z5 vc (zb (vF 2) (zb (vF 1) zB))) zB)) zB))) (C := [.fr (gD c)]) (φ := fun k => gD (yE (r.getD k (0, 0)) (yM (yO c (s.getD k (0, 0)))))) (WR (r.map gD) (s.map gD)) 0 .no .no (fun k d hk => by
  obtain ⟨x, y, e1, e2, rfl⟩ := WQ hk
  rw [g0w] at e1 e2
  cases q1 : r[k]? with
  | none => rw [q1] at e1; cases e1
  | some a =>
   cases q2 : s[k]? with
   | none => rw [q2] at e2; cases e2
   | some b =>
    rw [q1] at e1
    rw [q2] at e2
    cases e1
    cases e2
    have m := YZ b hc
    have mi := kD (yO c b)
    have pl := Yd a (yM (yO c b))
    refine ⟨_, _, rfl, ?_⟩
    simp only [zy, zm, zu, yh, g0c, g0b, g0a, m, mi, pl, g2a, g0l, q1, q2, g3c])
 have hi : ZK (vF 0) (vF 2) [.fr (xn r), .fr (gD c), .fr (xn s)] = some (WR (r.map gD) (s.map gD)) := by
  simp only [W3, yU, yh, g0b, g0c, g0a, xn, BU]
 have hcf := ui (n := 2) (caps := [1]) (γ := Zs 2 (y7 (zQ 0) (y7 (zQ 1) YO))) (ft := ttF) (f := z5 ur (zb (vF 0) (zb (z5 wA (zb (z5 vc (zb (vF 2) (zb (vF 1) zB))) zB)) zB))) hi (by rw [lz]; exact szl hl)
 have cs : uh 2 [1] [.fr (xn r), .fr (gD c), .fr (xn s)] = [.no, .no, .fr (gD c)] := rfl
 rw [cs, cm, lz] at hcf
 simp only [wq, Zc, zU, zt, g0j, g0q, g0d, g0g, Nat.reduceAdd, Nat.reduceSub, g0i, g0t, zT, zy, zm, wJ, hcf, zu, g0a, g1w, JX, z8, g2a]
 have er : (g1f r.length).map (fun k => gD (yE (r.getD k (0, 0)) (yM (yO c (s.getD k (0, 0)))))) = (Yb r (rsc (yM c) s)).map gD := by
  have h1 := qF gD (Yb r (rsc (yM c) s)) (0, 0)
  rw [xC (by rw [zF, hr])] at h1
  rw [<- h1]
  apply g2l
  intro k _
  rw [wK (by rw [zF, hr]), xB]
  congr 2
  simp only [yM, yO, Prod.mk.injEq]
  constructor <;> grind
 rw [er]
 rfl
theorem HG (ts : List T3) {n i j : Nat} (hi : i < n) (hj : j < n) : vj (zd ts i) i (zX n j) = Yb (zX n j) (rsc (yM (zd ts i j)) (zX n i)) := by
 have hl : (zX n j).length = (rsc (yM (zd ts i j)) (zX n i)).length := by rw [zF, zg, zg]
 apply va (by rw [z6, xC hl])
 intro k hk
 rw [z6, zg] at hk
 rw [x8 _ (by rw [zg]; exact hi), jV _ n j hj, wK hl, xB, xA hi, xA hk, xA hk]
 by_cases c : k = i
 ·subst c
  simp only [if_true, jZ]
 ·simp only [c, if_false, qJ, xQ]
theorem Uk (ts : List T3) {n : Nat} {w : List Nat} (hw : InW n w) {i j : Nat} (hi : i < n) (hj : j < n) : zR (zd ts) (w ++ [i]) (zX n j) = Yb (zR (zd ts) w (zX n j)) (rsc (yM (zd ts i j)) (zR (zd ts) w (zX n i))) := by
 rw [xc]
 show zR (zd ts) w (vj (zd ts i) i (zX n j)) = _
 rw [HG ts hi hj, qH _ _ (by rw [zF, zg, zg]) (by rw [zg]; exact hw), uf _ _ _ (by rw [zg]; exact hw)]
theorem QZ (ts : List T3) {n : Nat} (w : List Nat) {i : Nat} (hi : i < n) : ixD (vC (qg ts n w)) (.int i) = some (xn (zR (zd ts) w (zX n i))) := by
 unfold vC
 apply Jw
 simp [qg, hi]
theorem ZR (n : Nat) {ts : List T3} (hg : yP ts) {w : List Nat} (hn : n <= 100) (hw : InW n w) {i : Nat} (hi : i < n) : zG [zi n ts, vC (qg ts n w), .int i] = some (vC (qg ts n (w ++ [i]))) := by
 have ei : x4 ((qg ts n w).map xn) = x4 ((qg ts n w).map xn) := rfl
 have le : (x4 ((qg ts n w).map xn)).length = n := by rw [x4]; simp [qg]
 have cm := Bn (f := z5 wq (zb (vF 1) (zb (z5 xf (zb (vF 2) (zb (vF 3) (zb (vF 0) zB)))) (zb (zc ixD (vF 4) (vF 3)) zB)))) (C := [.fr (zi n ts), .fr (.int i), .fr (vC (qg ts n w))]) (φ := fun j => xn (zR (zd ts) (w ++ [i]) (zX n j))) (x4 ((qg ts n w).map xn)) 0 .no .no (fun k d hk => by
  have hk' : k < n := by
   have := (g0y.mp hk).1
   rwa [le] at this
  have e1 : (x4 ((qg ts n w).map xn))[k]? = some (.tup [.int (k : Int), xn (zR (zd ts) w (zX n k))]) := by
   simp [x4, qg, hk', List.getElem?_zipIdx]
  rw [e1] at hk
  cases hk
  have pv := W9 n hg (i : Int) (k : Int)
  have ia := QZ ts w hi
  have lv := Kw (c := jR ts i k) (qk ts i k) (r := zR (zd ts) w (zX n k)) (s := zR (zd ts) w (zX n i)) (by rw [zC, zC, zg, zg]) (by rw [zC, zg]; exact hn)
  have ib := Uk ts hw hi hk'
  unfold zd at ib lv
  rw [<- ib] at lv
  refine ⟨_, _, rfl, ?_⟩
  unfold zd at ia
  simp only [zy, zm, zu, zl, yh, g0c, g0b, g0a, pv, g2a]
  unfold zd
  rw [ia]
  simp only [g0a]
  exact lv)
 have hit : qI (vF 1) [.fr (zi n ts), .fr (vC (qg ts n w)), .fr (.int i)] = some (x4 ((qg ts n w).map xn)) := by
  simp only [Z9, yU, yh, g0b, g0c, g0a, vC, U1]
 have hcf := ui (n := 2) (caps := [0, 2, 1]) (γ := Zs 2 (y7 (zQ 0) (y7 (zQ 1) YO))) (ft := ttF) (f := z5 wq (zb (vF 1) (zb (z5 xf (zb (vF 2) (zb (vF 3) (zb (vF 0) zB)))) (zb (zc ixD (vF 4) (vF 3)) zB)))) hit (by rw [le]; exact szl hn)
 have cs : uh 2 [0, 2, 1] [.fr (zi n ts), .fr (vC (qg ts n w)), .fr (.int i)] = [.no, .no, .fr (zi n ts), .fr (.int i), .fr (vC (qg ts n w))] := rfl
 rw [cs, cm, le] at hcf
 simp only [zG, xt, zU, zt, g0j, g0q, g0d, g0g, Nat.reduceAdd, Nat.reduceSub, g0i, g0t, zT, wJ, hcf, g0a, g1w, z8, g2a]
 simp only [vC, qg, g1o, Function.comp_def]
theorem HQ (ts : List T3) {n : Nat} (hn : n <= 6) {w : List Nat} (hw : w.length <= 100) (i : Nat) : ∀ x ∈ zR (zd ts) w (zX n i), x.1.natAbs <= 2 ^ 700 /\ x.2.natAbs <= 2 ^ 700 := by
 have h := QQ (ts := ts) (GW n i) (by rw [zg]; exact hn) w
 have e : 1 * 32 ^ w.length <= 2 ^ 700 := by
  have h32 : (32 : Nat) = 2 ^ 5 := by decide
  rw [Nat.one_mul, h32, <- Nat.pow_mul]
  exact g2h (by decide) (by omega)
 intro x hx
 exact ⟨g1y (h x hx).1 e, g1y (h x hx).2 e⟩
theorem QP (ts : List T3) {n : Nat} (hn : n <= 6) {w : List Nat} (hw : w.length <= 100) (i : Nat) : Fit (zR (zd ts) w (zX n i)) := fun x hx => by
 have h := HQ ts hn hw i x hx
 exact ⟨QK (k := 701) (g3g h.1 (Nat.pow_lt_pow_right (by decide) (by decide))) (by decide), QK (k := 701) (g3g h.2 (Nat.pow_lt_pow_right (by decide) (by decide))) (by decide)⟩
theorem Dk (r : List Gd) : Fz r = K6 r := rfl
noncomputable def whB : FS := yq (uO 2 (z5 xZ (zb (zc ixD (vF 3) (vF 4)) zB))) (y4 3 (z5 zG (zb (vF 0) (zb (vF 3) (zb (vF 4) zB)))))
theorem Zp (n : Nat) {ts : List T3} (hg : yP ts) (hn : n <= 6) (W : D) : ∀ (w pre : List Nat) (T : List Bool) (s : Slot), InW n pre -> InW n w -> pre.length + w.length <= 100 -> T.length + w.length <= 200 -> ∃ s3 s4, y6 (zQ 4) whB (w.map fun (i : Nat) => .int (i : Int)) [.fr (zi n ts), .fr W, .ol (T.map D.bl), .fr (vC (qg ts n pre)), s] =
  some (.nx [.fr (zi n ts), .fr W, .ol ((T ++ wG ts n pre w).map D.bl), s3, s4])
 | [], pre, T, s, hp, hw, h1, h2 => ⟨_, _, by rw [wG, g0t]; rfl⟩
 | i :: w, pre, T, s, hp, hw, h1, h2 => by
  have hi : i < n := hw i g0s
  rw [g0d] at h1 h2
  obtain ⟨s3, s4, e⟩ := Zp n hg hn W w (pre ++ [i]) (T ++ [K6 (zR (zd ts) pre (zX n i))]) (.fr (.int i)) (hp.app (InW.one hi)) (fun k hk => hw k (g0n _ hk)) (by rw [g0f, g1p]; omega) (by rw [g0f, g1p]; omega)
  refine ⟨s3, s4, ?_⟩
  have ia := QZ ts pre hi
  have av := JA (r := zR (zd ts) pre (zX n i)) (by rw [zC, zg]; omega) (QP ts hn (by omega) i)
  rw [Dk] at av
  have bv := ZR n hg (by omega) hp hi
  have z : (T.map D.bl).length < sizeLine := vJ (by simp; omega)
  have em : (T ++ [K6 (zR (zd ts) pre (zX n i))]).map D.bl = T.map D.bl ++ [D.bl (K6 (zR (zd ts) pre (zX n i)))] := by simp
  rw [g1g, g2w] at e
  rw [wG, g0j]
  unfold y6
  rw [em] at e
  simp only [whB, yN, g0a, g0h, g0e, zS, Xb, zy, zm, zu, zl, yh, g0c, g0b, ia, av, if_pos z, z9, bv]
  unfold whB at e
  exact e
theorem UH (n : Nat) {ts : List T3} (hg : yP ts) (hn : n <= 6) {w : List Nat} (hw : InW n w) (hl : w.length <= 100) : yI [zi n ts, zh w] = some (.lst ((wG ts n [] w).map D.bl)) := by
 have w0 : D.tup [] = zh [] := rfl
 have iv := ue n hg (w := []) (by omega) (fun i hi => by cases hi)
 obtain ⟨s3, s4, e⟩ := Zp n hg hn (zh w) w [] [] .no (fun i hi => by cases hi) hw (by simpa using hl) (by simp; omega)
 have z0 : 0 <= sizeLine := g2e _
 rw [g0q, g0p] at e
 unfold yI wF
 unfold whB at e
 simp only [zU, zt, g0j, g0q, g0d, g0g, Nat.reduceAdd, Nat.reduceSub, g0i, g0r, g0p, zS, Xa, Y9, zu, g0a, if_pos z0, g0h, g0e, z9, zy, zm, yh, wH, g0b, g0c, w0, iv, wg, yU]
 have sq : ke (zh w) = some (w.map fun (i : Nat) => .int (i : Int)) := rfl
 simp only [sq, g0a]
 rw [e]
 simp only [g0a, U3, G4, zT, yh, g0b, g0c, g0h, g0e, z8]
theorem Ww (n : Nat) {ts : List T3} (hg : yP ts) (hn : n <= 6) {w : List Nat} (hw : InW n w) (hl : w.length <= 100) : ye [zi n ts, zh w] = some (.bl ((wG ts n [] w).all id)) := by
 have wv := UH n hg hn hw hl
 simp only [ye, jv, zU, zt, g0j, g0q, g0d, g0g, Nat.reduceAdd, Nat.reduceSub, g0i, g0t, zT, zy, zm, zu, yh, g0b, g0c, g0a, wv, D0, z8]
def Hk : Option Nat -> D
 | none => .non
 | some i => .int (i : Int)
theorem Di (r : List Gd) : Fx r = YD r := rfl
noncomputable def fbB : FS := ifS (blF (z5 xY (zb (vF 2) zB))) (yY (vF 1)) nxF
theorem Je (n : Nat) (ts : List T3) (hn : n <= 6) {u : List Nat} (hu : u.length <= 100) (R : D) : ∀ (m i : Nat) (s1 s2 : Slot), i + m = n -> ∃ o, y6 (Zs 2 (y7 (zQ 1) (y7 (zQ 2) YO))) fbB (kP i (((List.range' i m).map fun j => zR (zd ts) u (zX n j)).map xn)) [.fr R, s1, s2] = some o ∧
  JE ((some o).bind fun o => match o with | .nx ρ' => yY (cF .non) ρ' | o => some o) = some (Hk ((List.range' i m).find? fun j => YD (zR (zd ts) u (zX n j))))
 | 0, i, s1, s2, h => ⟨_, rfl, rfl⟩
 | m + 1, i, s1, s2, h => by
  obtain ⟨o, h1, h2⟩ := Je n ts hn hu R m (i + 1) (.fr (.int i)) (.fr (xn (zR (zd ts) u (zX n i)))) (by omega)
  have bv := Jv (r := zR (zd ts) u (zX n i)) (by rw [zC, zg]; omega) (QP ts hn hu i)
  rw [Di] at bv
  rw [List.range'_succ, g0j, g0j]
  unfold kP y6
  by_cases c : YD (zR (zd ts) u (zX n i)) = true
  ·rw [c] at bv
   refine ⟨.rt (.int i), ?_, by rw [List.find?_cons_of_pos (by exact c)]; rfl⟩
   simp only [fbB, ki, qj, yN, kj, g0d, g0g, Nat.reduceAdd, if_true, g0h, g0e, g0a, yv, yd, zy, zm, zu, yh, g0c, g0b, bv, zT]
  ·rw [Bool.not_eq_true] at c
   rw [c] at bv
   refine ⟨o, ?_, by rw [List.find?_cons_of_neg (by simp [c])]; exact h2⟩
   simp only [fbB, ki, qj, yN, kj, g0d, g0g, Nat.reduceAdd, if_true, g0h, g0e, g0a, yv, yd, zy, zm, zu, yh, g0c, g0b, bv, g0k, if_false, xv]
   unfold fbB at h1
   exact h1
theorem GG (n : Nat) (ts : List T3) (hn : n <= 6) {u : List Nat} (hu : u.length <= 100) : yK [vC (qg ts n u)] = some (Hk (vx ts n u)) := by
 obtain ⟨o, h1, h2⟩ := Je n ts hn hu (vC (qg ts n u)) n 0 .no .no (by omega)
 rw [<- List.range_eq_range'] at h1 h2
 rw [<- Yt] at h1
 have it : qI (vF 0) [.fr (vC (qg ts n u)), .no, .no] = some (x4 (((g1f n).map fun j => zR (zd ts) u (zX n j)).map xn)) := by
  simp only [Z9, yU, yh, g0b, g0a, vC, U1]
  rfl
 unfold yK um
 unfold fbB at h1
 simp only [zU, zt, g0j, g0q, g0d, g0g, Nat.reduceAdd, Nat.reduceSub, g0i, g0r, g0p, zS, wg, it, g0a]
 rw [h1]
 exact h2
noncomputable def leB : FS := (yq (uO 2 (vF 4)) (yq (y4 3 (z5 zG (zb (vF 0) (zb (vF 3) (zb (vF 4) zB))))) (y4 4 (z5 yK (zb (vF 3) zB)))))
theorem HS (n : Nat) {ts : List T3} (hg : yP ts) (hn : n <= 6) (W : D) {u v : List Nat} (h : Lst ts n u v) : ∀ (T : List Nat) (k : Nat), InW n u -> u.length + v.length <= 100 -> T.length + v.length <= 100 -> v.length < k -> ∃ s3 s4, qx (blF (zc (isD true) (vF 4) (cF .non))) leB k [.fr (zi n ts), .fr W, .ol (T.map fun (i : Nat) => .int (i : Int)), .fr (vC (qg ts n u)), .fr (Hk (vx ts n u))] =
  some (.nx [.fr (zi n ts), .fr W, .ol ((T ++ v).map fun (i : Nat) => .int (i : Int)), s3, s4]) := by
 induction h with
 | @nil u h =>
  intro T k hu h1 h2 h3
  cases k with
  | zero => simp at h3
  | succ k =>
   refine ⟨.fr (vC (qg ts n u)), .fr .non, ?_⟩
   rw [h, g0t]
   rfl
 | @cons u v i h t ih =>
  intro T k hu h1 h2 h3
  rw [g0d] at h1 h2 h3
  cases k with
  | zero => omega
  | succ k =>
   obtain ⟨hi, _, _⟩ := qm h
   obtain ⟨s3, s4, e⟩ := ih (T ++ [i]) k (hu.app (InW.one hi)) (by rw [g0f, g1p]; omega) (by rw [g0f, g1p]; omega) (by omega)
   refine ⟨s3, s4, ?_⟩
   have bv := ZR n hg (by omega) hu hi
   have fv := GG n ts hn (u := u ++ [i]) (by rw [g0f, g1p]; omega)
   have z : (T.map fun (i : Nat) => D.int (i : Int)).length < sizeLine := vJ (by simp; omega)
   have nn : isD true (.int (i : Int)) .non = some (.bl true) := rfl
   have em : (T ++ [i]).map (fun (i : Nat) => D.int (i : Int)) = T.map (fun (i : Nat) => D.int (i : Int)) ++ [D.int (i : Int)] := by simp
   rw [em, g1g, g2w] at e
   rw [h]
   unfold qx
   simp only [yd, zl, yh, yR, g0c, g0b, g0a, Hk, nn, if_true, leB, zS, Xb, if_pos z, g0h, g0e, z9, zy, zm, zu, bv, fv]
   unfold leB at e
   exact e
theorem QR (n : Nat) {ts : List T3} (hg : yP ts) (hn : n <= 6) {w v : List Nat} (hw : InW n w) (h : Lst ts n w.reverse v) (hl : w.length <= 50) (hv : v.length <= 50) : uI [zi n ts, zh w] = some (zh v) := by
 have iv := ue n hg (w := w.reverse) (by omega) hw.rev
 have fv := GG n ts hn (u := w.reverse) (by rw [g1s]; omega)
 obtain ⟨s3, s4, e⟩ := HS n hg hn (zh w) h [] 100000 hw.rev (by rw [g1s]; omega) (by simp; omega) (by omega)
 have z0 : 0 <= sizeLine := g2e _
 have rt : ∀ ρ : Rho, ρ[1]? = some (.fr (zh w)) -> Dq (vF 1) ρ = some (zh w.reverse) := fun ρ hρ => by
  simp only [BW, yh, hρ, g0a, zh]
  simp
 have rt' := rt [.fr (zi n ts), .fr (zh w), .ol [], .no, .no] rfl
 rw [g0q, g0p] at e
 unfold uI WO
 unfold leB at e
 generalize 100000 = FU at e ⊢
 simp only [zU, zt, g0j, g0q, g0d, g0g, Nat.reduceAdd, Nat.reduceSub, g0i, g0r, g0p, zS, Xa, Y9, zu, g0a, if_pos z0, g0h, g0e, z9, zy, zm, rt', yh, g0b, g0c, iv, fv]
 rw [e]
 simp only [g0a, zT, zy, zm, zu, FQ, g0b, g0c, JX, z8]
 rfl
theorem C6 (x y : Gd) : eqD (gD x) (gD y) = decide (x = y) := by
 obtain ⟨a, b⟩ := x
 obtain ⟨c, d⟩ := y
 by_cases h : a = c <;> by_cases h' : b = d <;> simp [gD, eqD, j2, h, h']
theorem Vv {α : Type} [DecidableEq α] (f : α -> D) (hf : ∀ x y, eqD (f x) (f y) = decide (x = y)) : ∀ r s : List α, j2 (r.map f) (s.map f) = decide (r = s)
 | [], [] => by simp [j2]
 | [], y :: s => by simp [j2]
 | x :: r, [] => by simp [j2]
 | x :: r, y :: s => by
  simp only [g0j, j2, hf, Vv f hf r s]
  by_cases h : x = y <;> by_cases h' : r = s <;> simp [h, h']
theorem KM (r s : List Gd) : eqD (xn r) (xn s) = decide (r = s) := by
 unfold xn eqD
 exact Vv gD C6 r s
theorem QM (h : D) (i j : Int) : ∀ (ts : List T3) (s1 s2 s3 : Slot), ∃ o, y6 (Zs 3 (y7 (zQ 3) (y7 (zQ 4) (y7 (zQ 5) YO)))) (ifS (blF (zc eqF (tupF (zb (vF 3) (zb (vF 4) zB))) (tupF (zb (z5 BA (zb (vF 1) (zb (vF 2) zB))) (zb (z5 BB (zb (vF 1) (zb (vF 2) zB))) zB))))) (yY (vF 5)) nxF)
  (ts.map tD) [.fr h, .fr (.int i), .fr (.int j), s1, s2, s3] = some o /\ JE ((some o).bind fun o => match o with | .nx ρ' => yY (cF (.int 2)) ρ' | o => some o) = some (.int (yQ ts i j))
 | [], s1, s2, s3 => ⟨_, rfl, rfl⟩
 | t :: ts, s1, s2, s3 => by
  obtain ⟨o, h1, h2⟩ := QM h i j ts (.fr (.int t.1)) (.fr (.int t.2.1)) (.fr (.int t.2.2))
  have z2 : 0 + 1 + 1 <= sizeLine := szl (by decide)
  have e := eq2 t.1 t.2.1 (if j < i then j else i) (if j > i then j else i)
  rw [g0j]
  unfold y6 yQ
  by_cases c : t.1 = mlo i j /\ t.2.1 = mhi i j
  ·have c' : t.1 = (if j < i then j else i) /\ t.2.1 = (if j > i then j else i) := c
   refine ⟨.rt (.int t.2.2), ?_, by rw [if_pos c]; rfl⟩
   have e0 : (decide (t.1 = (if j < i then j else i) /\ t.2.1 = (if j > i then j else i))) = true := decide_eq_true c'
   simp only [tD, ki, qj, yN, kj, g0d, g0g, Nat.reduceAdd, if_true, g0h, g0e, g0a, yv, yd, zl, wH, zm, zu, yh, g0c, g0b, zy, BY, BZ, if_pos z2, if_pos (szl (n := 2) (by decide)), e, e0, zT]
  ·have c' : ¬ (t.1 = (if j < i then j else i) /\ t.2.1 = (if j > i then j else i)) := c
   refine ⟨o, ?_, by rw [if_neg c]; exact h2⟩
   simp only [tD, ki, qj, yN, kj, g0d, g0g, Nat.reduceAdd, if_true, g0h, g0e, g0a, yv, yd, zl, wH, zm, zu, yh, g0c, g0b, zy, BY, BZ, if_pos z2, if_pos (szl (n := 2) (by decide)), e, c', decide_false, g0k, if_false, xv]
   exact h1
theorem CL (n : Nat) (ts : List T3) (i j : Int) : Xy [zi n ts, .int i, .int j] = some (.int (yQ ts i j)) := by
 obtain ⟨o, h1, h2⟩ := QM (zi n ts) i j ts .no .no .no
 have e : ixD (zi n ts) (.int 1) = some (.lst (ts.map tD)) := by unfold zi; exact ix1
 unfold Xy Bx
 simp only [zU, zt, g0j, g0q, g0d, g0g, Nat.reduceAdd, Nat.reduceSub, g0i, g0r, g0p, zS, wg, yU, zl, yh, yR, g0b, g0c, g0a, e, U1]
 rw [h1]
 exact h2
def Cy (p : List Nat) : D := .lst (p.map fun (i : Nat) => .int (i : Int))
theorem Cw (p : List Nat) : dep (Cy p) <= 100 := by
 have : qh (p.map fun (i : Nat) => D.int (i : Int)) <= 0 := Yz fun d hd => by
  obtain ⟨x, _, rfl⟩ := g2q.mp hd
  simp [dep]
 unfold Cy dep
 omega
theorem Jr {f : FE} {C : List Slot} {φ : Nat -> D} : ∀ (l : List Nat) (s : Slot), (∀ i ∈ l, f (.fr (.int (i : Int)) :: C) = some (φ i)) -> xh (zQ 0) ttF f (l.map fun (i : Nat) => D.int (i : Int)) (s :: C) = some (l.map φ)
 | [], _, _ => rfl
 | i :: l, s, h => by
  have h0 := h i g0s
  have ih := Jr (φ := φ) l (.fr (.int (i : Int))) fun j hj => h j (g0n _ hj)
  rw [g0j]
  unfold xh
  simp only [yN, g0e, g0a, UZ, if_true, h0, ih]
  rfl
theorem xu (u v : List Nat) (h : u.length + v.length <= 100) : yJ (zh u) (zh v) = some (zh (u ++ v)) := by
 show (if _ then _ else _) = _
 rw [if_pos (szl (by simp; omega))]
 simp [zh]
theorem Bm {α : Type} (xs : List α) (a b : Nat) (h : a <= b) : qS xs (some (a : Int)) (some (b : Int)) = (xs.drop a).take (b - a) := by
 unfold qS
 rw [HT.sIx_nat, HT.sIx_nat]
 by_cases h1 : a <= xs.length
 ·by_cases h2 : b <= xs.length
  ·rw [g2p h1, g2p h2]
  ·rw [g2p h1, g3d (by omega), g2c (by simp), g2c (by simp; omega)]
 ·rw [g3d (by omega), g3d (by omega), g2d (g0o _), g2d (by omega)]
  simp
theorem UF (w : List Nat) (k : Nat) : D.tup (qS (w.map fun (i : Nat) => D.int (i : Int)) none (some (k : Int))) = zh (w.take k) := by
 rw [Vy, <- List.map_take]; rfl
theorem YS (w : List Nat) (k : Nat) : D.tup (qS (w.map fun (i : Nat) => D.int (i : Int)) (some (k : Int)) none) = zh (w.drop k) := by
 rw [Vz, <- List.map_drop]; rfl
theorem JJ (w : List Nat) (a b : Nat) (h : a <= b) : D.tup (qS (w.map fun (i : Nat) => D.int (i : Int)) (some (a : Int)) (some (b : Int))) = zh ((w.drop a).take (b - a)) := by
 rw [Bm _ _ _ h, <- List.map_drop, <- List.map_take]; rfl
theorem qi {f : FE} {ρ : Rho} {w : List Nat} {k : Nat} {g : FE} (hf : f ρ = some (zh w)) (hg : g ρ = some (.int (k : Int))) : yg f noP (exP g) ρ = some (zh (w.take k)) := by
 simp only [qA, hf, JY, U4, hg, g0a, zh]
 exact congrArg some (UF w k)
theorem qW {f : FE} {ρ : Rho} {w : List Nat} {k : Nat} {g : FE} (hf : f ρ = some (zh w)) (hg : g ρ = some (.int (k : Int))) : yg f (exP g) noP ρ = some (zh (w.drop k)) := by
 simp only [qA, hf, JY, U4, hg, g0a, zh]
 exact congrArg some (YS w k)
theorem W2 {f : FE} {ρ : Rho} {w : List Nat} {a b : Nat} {g h : FE} (hf : f ρ = some (zh w)) (hg : g ρ = some (.int (a : Int))) (hh : h ρ = some (.int (b : Int))) (hab : a <= b) : yg f (exP g) (exP h) ρ = some (zh ((w.drop a).take (b - a))) := by
 simp only [qA, hf, U4, hg, hh, g0a, zh]
 exact congrArg some (JJ w a b hab)
inductive Mv where
 | drop (p : Int)
 | turn (p i j : Int)
def mvD : Mv -> D
 | .drop p => .tup [.str "drop", .int p]
 | .turn p i j => .tup [.str "turn", .int p, .int i, .int j]
def ZS (i j m : Nat) : List Nat := (g1f m).map fun k => if k % 2 = 0 then i else j
theorem xj (i j m : Nat) : (ZS i j m).length = m := by simp [ZS]
theorem Br {n i j : Nat} (hi : i < n) (hj : j < n) (m : Nat) : InW n (ZS i j m) := fun k hk => by
 obtain ⟨a, _, rfl⟩ := g2q.mp hk
 split <;> assumption
def Yx (w : List Nat) (p : Int) : Option (List Nat) := if 0 <= p /\ p < (w.length : Int) - 1 /\ w[p.toNat]? = w[p.toNat + 1]? then some (w.take p.toNat ++ w.drop (p.toNat + 2)) else none
def ka (ts : List T3) (n : Nat) (w : List Nat) (p i j : Int) : Option (List Nat) := if 0 <= p /\ p < (w.length : Int) /\ (0 <= i /\ i < (n : Int)) /\ (0 <= j /\ j < (n : Int)) /\ i ≠ j /\ yQ ts i j ≠ 0 /\ (w.drop p.toNat).take (yQ ts i j).toNat = ZS i.toNat j.toNat (yQ ts i j).toNat then
      some (w.take p.toNat ++ ZS j.toNat i.toNat (yQ ts i j).toNat ++ w.drop (p.toNat + (yQ ts i j).toNat)) else none
def X6 (ts : List T3) (n : Nat) (w : List Nat) : Mv -> Option (List Nat)
 | .drop p => Yx w p
 | .turn p i j => ka ts n w p i j
def yZ : Option (List Nat) -> D
 | none => .non
 | some w => zh w
theorem QF {ts : List T3} {n : Nat} {w w' : List Nat} {mv : Mv} (hw : InW n w) (h : X6 ts n w mv = some w') : InW n w' /\ w'.length <= w.length := by
 cases mv with
 | drop p =>
  change Yx w p = some w' at h
  unfold Yx at h
  split at h
  ·cases h
   refine ⟨(InW.app (fun x hx => hw x (g2j hx)) fun x hx => hw x (g2i hx)), ?_⟩
   rw [g0f, g1c, g1k]
   omega
  ·cases h
 | turn p i j =>
  change ka ts n w p i j = some w' at h
  unfold ka at h
  split at h
  ·rename_i c
   obtain ⟨c1, c2, ⟨c3, c4⟩, ⟨c5, c6⟩, c7, c8, c9⟩ := c
   cases h
   have hl := congrArg g2u c9
   rw [xj, g1c, g1k] at hl
   refine ⟨(InW.app (fun x hx => hw x (g2j hx)) (Br (by omega) (by omega) _)).app fun x hx => hw x (g2i hx), ?_⟩
   rw [g0f, g0f, xj, g1c, g1k]
   omega
  ·cases h
theorem XD (u v : List Nat) : eqD (zh u) (zh v) = decide (u = v) := by
 have gen : ∀ u v : List Nat, j2 (u.map fun (i : Nat) => D.int (i : Int)) (v.map fun (i : Nat) => D.int (i : Int)) = decide (u = v) := by
  intro u
  induction u with
  | nil => intro v; cases v <;> simp [j2]
  | cons x u ih =>
   intro v
   cases v with
   | nil => simp [j2]
   | cons y v =>
    simp only [g0j, j2, eqD, ih v]
    by_cases h : x = y <;> by_cases h' : u = v <;> simp [h, h']
    omega
 unfold zh eqD
 exact gen u v
theorem YT (w : List Nat) : dep (zh w) <= 100 := by
 have : qh (w.map fun (i : Nat) => D.int (i : Int)) <= 0 := Yz fun d hd => by
  obtain ⟨x, _, rfl⟩ := g2q.mp hd
  simp [dep]
 unfold zh dep
 omega
theorem Ws (u v : List Nat) : neF (zh u) (zh v) = some (.bl (!decide (u = v))) := by
 unfold neF
 rw [if_pos (YT u), XD]
theorem Ba (u v : List Nat) : eqF (zh u) (zh v) = some (.bl (decide (u = v))) := by
 unfold eqF
 rw [if_pos (YT u), XD]
theorem C5 : eqF (.str "drop") (.str "drop") = some (.bl true) := by
 unfold eqF; rw [if_pos (by simp [dep])]; simp [eqD]
theorem C4 : eqF (.str "turn") (.str "drop") = some (.bl false) := by
 unfold eqF; rw [if_pos (by simp [dep])]; unfold eqD; congr 2
theorem jg (i j : Int) (a b m : Nat) (hi : i = (a : Int)) (hj : j = (b : Int)) (hm : m <= 100) : zA [.int i, .int j, .int (m : Int)] = some (zh (ZS a b m)) := by
 subst hi hj
 have ra : vT [.int (m : Int)] = some ((g1f m).map fun (i : Nat) => D.int (i : Int)) := by
  rw [xO (by omega) (by omega)]
  simp [yk]
 have hi : W6 (zb (vF 2) zB) [.fr (.int (a : Int)), .fr (.int (b : Int)), .fr (.int (m : Int))] = some ((g1f m).map fun (i : Nat) => D.int (i : Int)) := by
  simp only [u6, zm, zu, yh, g0c, g0b, g0a, ra]
 have hc := ui (n := 1) (caps := [0, 1]) (γ := zQ 0) (ft := ttF) (f := ifF (blF (zc eqF (zc vZ (vF 0) (cF (.int 2))) (cF (.int 0)))) (vF 1) (vF 2)) hi (szl (by simpa using hm))
 have cs : uh 1 [0, 1] [.fr (.int (a : Int)), .fr (.int (b : Int)), .fr (.int (m : Int))] = [.no, .fr (.int (a : Int)), .fr (.int (b : Int))] := rfl
 rw [cs, Jr (φ := fun k => D.int ((if k % 2 = 0 then a else b : Nat) : Int)) (g1f m) .no (fun k _ => by
  have q := yA (i := (k : Int)) (show (0 : Int) < 2 by decide)
  by_cases c : k % 2 = 0
  ·have c' : (k : Int) % 2 = 0 := by omega
   simp only [Ca, yd, zl, yh, yR, g0c, g0b, g0a, q, wj, c', decide_true, if_true, c]
  ·have c' : ¬ ((k : Int) % 2 = 0) := by omega
   simp only [Ca, yd, zl, yh, yR, g0c, g0b, g0a, q, wj, c', decide_false, g0k, if_false, c])] at hc
 simp only [zA, Zf, zU, zt, g0j, g0q, g0d, g0g, Nat.reduceAdd, Nat.reduceSub, g0i, g0t, zT, zy, zm, wJ, hc, zu, g0a, g1w, JX, z8]
 unfold zh ZS
 rw [g1o]
 rfl
theorem KQ {n : Nat} (ts : List T3) {w : List Nat} (hl : w.length <= 60) (p : Int) : yL [zh w, .int p] = some (yZ (X6 ts n w (.drop p))) := by
 have hlw : Zi [zh w] = some (.int (w.length : Int)) := by simp [zh]
 show _ = some (yZ (Yx w p))
 unfold Yx
 by_cases c1 : 0 <= p /\ p < (w.length : Int) - 1
 ·obtain ⟨k, rfl⟩ : ∃ k : Nat, p = (k : Int) := ⟨p.toNat, by omega⟩
  have hk : k + 1 < w.length := by omega
  have e0 : (k : Int).toNat = k := by omega
  rw [e0]
  have x1 : ixD (zh w) (.int (k : Int)) = some (.int (w[k] : Int)) := VE (by rw [g0w, g0x (by omega)]; rfl)
  have ek : (k : Int) + 1 = ((k + 1 : Nat) : Int) := by omega
  have x2 : ixD (zh w) (.int ((k + 1 : Nat) : Int)) = some (.int (w[k + 1] : Int)) := VE (by rw [g0w, g0x (by omega)]; rfl)
  rw [g0x (show k < w.length by omega), g0x hk]
  by_cases c2 : w[k] = w[k + 1]
  ·have c3 : ((w[k] : Nat) : Int) = ((w[k + 1] : Nat) : Int) := by rw [c2]
   rw [if_pos ⟨c1.1, c1.2, by rw [c2]⟩]
   have t1 := qi (f := vF 0) (g := vF 1) (ρ := [.fr (zh w), .fr (.int (k : Int))]) (w := w) (k := k) rfl rfl
   have t2 := qW (f := vF 0) (g := zc yJ (vF 1) (cF (.int 2))) (ρ := [.fr (zh w), .fr (.int (k : Int))]) (w := w) (k := k + 2) rfl (by
    simp only [zl, yh, yR, g0c, g0b, g0a, ud]
    congr 2)
   have a1 := xu (w.take k) (w.drop (k + 2)) (by rw [g1c, g1k]; omega)
   simp only [yL, xI, zU, zt, g0j, g0q, g0d, g0g, Nat.reduceAdd, Nat.reduceSub, g0i, g0t, zS, yv, xN, yd, yx, yR, yh, zl, zy, zm, zu, g0c, g0b, g0a, hlw, U0, Z7, jQ, c1.1, c1.2, decide_true, g1m, g0k, if_false, xv, x1, ud, ek, x2, JZ, c3, zT, t1, t2, a1, z8, yZ]
  ·have c3 : ¬ (((w[k] : Nat) : Int) = ((w[k + 1] : Nat) : Int)) := by omega
   rw [if_neg (fun h => c2 (by simpa using h.2.2))]
   simp only [yL, xI, zU, zt, g0j, g0q, g0d, g0g, Nat.reduceAdd, Nat.reduceSub, g0i, g0t, zS, yv, xN, yd, yx, yR, yh, zl, zy, zm, zu, g0c, g0b, g0a, hlw, U0, Z7, jQ, c1.1, c1.2, decide_true, g1m, g0k, if_false, xv, x1, ud, ek, x2, JZ, c3, decide_false, g1n, if_true, zT, z8, yZ]
 ·rw [if_neg (fun h => c1 ⟨h.1, h.2.1⟩)]
  by_cases c0 : 0 <= p
  ·have c2 : ¬ (p < (w.length : Int) - 1) := fun h => c1 ⟨c0, h⟩
   simp only [yL, xI, zU, zt, g0j, g0q, g0d, g0g, Nat.reduceAdd, Nat.reduceSub, g0i, g0t, zS, yv, xN, yd, yx, yR, yh, zl, zy, zm, zu, g0c, g0b, g0a, hlw, U0, Z7, jQ, c0, c2, decide_true, decide_false, g1n, if_true, zT, z8, yZ]
  ·simp only [yL, xI, zU, zt, g0j, g0q, g0d, g0g, Nat.reduceAdd, Nat.reduceSub, g0i, g0t, zS, yv, xN, yd, yx, yR, yh, zl, zy, zm, zu, g0c, g0b, g0a, hlw, U0, Z7, jQ, c0, decide_false, g1n, if_true, zT, z8, yZ]
theorem jI (n : Nat) (ts : List T3) (i : Int) : xg [zi n ts, .int i] = some (.bl (decide (0 <= i /\ i < (n : Int)))) := by
 have en : ixD (zi n ts) (.int 0) = some (.int n) := by unfold zi; exact ix0
 by_cases c0 : 0 <= i
 ·simp only [xg, uk, zU, zt, g0j, g0q, g0d, g0g, Nat.reduceAdd, Nat.reduceSub, g0i, g0t, zT, yx, yR, yh, zl, g0c, g0b, g0a, Z7, c0, decide_true, en, jQ, z8, true_and]
 ·simp only [xg, uk, zU, zt, g0j, g0q, g0d, g0g, Nat.reduceAdd, Nat.reduceSub, g0i, g0t, zT, yx, yR, yh, zl, g0c, g0b, g0a, Z7, c0, decide_false, z8, false_and]
theorem UJ (n : Nat) {ts : List T3} (hg : yP ts) {w : List Nat} (hl : w.length <= 60) (p i j : Int) : yf [zi n ts, zh w, .int p, .int i, .int j] = some (yZ (X6 ts n w (.turn p i j))) := by
 have hlw : Zi [zh w] = some (.int (w.length : Int)) := by simp [zh]
 have mi := jI n ts i
 have mj := jI n ts j
 have tv := ZW n ts i j
 have hm := vI hg i j
 show _ = some (yZ (ka ts n w p i j))
 unfold ka
 by_cases c0 : 0 <= p
 ·by_cases c1 : p < (w.length : Int)
  ·obtain ⟨k, rfl⟩ : ∃ k : Nat, p = (k : Int) := ⟨p.toNat, by omega⟩
   have e0 : (k : Int).toNat = k := by omega
   rw [e0]
   by_cases c2 : 0 <= i /\ i < (n : Int)
   ·rw [decide_eq_true c2] at mi
    by_cases c3 : 0 <= j /\ j < (n : Int)
    ·rw [decide_eq_true c3] at mj
     by_cases c4 : i = j
     ·rw [if_neg (fun h => h.2.2.2.2.1 c4)]
      simp only [yf, yy, zU, zt, g0j, g0q, g0d, g0g, Nat.reduceAdd, Nat.reduceSub, g0i, g0r, g0p, zS, yv, vk, xN, yd, yx, yR, yh, zl, zy, zm, zu, g0c, g0b, g0a, hlw, Z7, jQ, c0, c1, decide_true, g1m, g0k, if_false, xv, mi, mj, wj, c4, if_true, zT, z8, yZ]
     ·obtain ⟨m, em⟩ : ∃ m : Nat, yQ ts i j = (m : Int) := ⟨(yQ ts i j).toNat, by omega⟩
      rw [em] at tv hm ⊢
      have e1 : (m : Int).toNat = m := by omega
      rw [e1]
      by_cases c5 : m = 0
      ·rw [if_neg (fun h => h.2.2.2.2.2.1 (by omega))]
       have c5' : (m : Int) = 0 := by omega
       simp only [yf, yy, zU, zt, g0j, g0q, g0d, g0g, Nat.reduceAdd, Nat.reduceSub, g0i, g0r, g0p, zS, yv, vk, xN, yd, yx, yR, yh, zl, zy, zm, zu, g0c, g0b, g0a, hlw, Z7, jQ, c0, c1, decide_true, g1m, g0k, if_false, xv, mi, mj, wj, c4, decide_false, z9, tv, g0h, g0e, ud, c5', if_true, zT, z8, yZ]
      ·have c5' : ¬ ((m : Int) = 0) := by omega
       have ekm : (k : Int) + (m : Int) = ((k + m : Nat) : Int) := by omega
       have i1 := jg i j i.toNat j.toNat m (by omega) (by omega) (by omega)
       have i2 := jg j i j.toNat i.toNat m (by omega) (by omega) (by omega)
       have t1 := qi (f := vF 1) (g := vF 2) (ρ := [.fr (zi n ts), .fr (zh w), .fr (.int (k : Int)), .fr (.int i), .fr (.int j), .fr (.int (m : Int)), .fr (.int ((k + m : Nat) : Int))]) (w := w) (k := k) rfl rfl
       have t2 := qW (f := vF 1) (g := vF 6) (ρ := [.fr (zi n ts), .fr (zh w), .fr (.int (k : Int)), .fr (.int i), .fr (.int j), .fr (.int (m : Int)), .fr (.int ((k + m : Nat) : Int))]) (w := w) (k := k + m) rfl rfl
       have t3 := W2 (f := vF 1) (g := vF 2) (h := vF 6) (ρ := [.fr (zi n ts), .fr (zh w), .fr (.int (k : Int)), .fr (.int i), .fr (.int j), .fr (.int (m : Int)), .fr (.int ((k + m : Nat) : Int))]) (w := w) (a := k) (b := k + m) rfl rfl rfl (by omega)
       rw [g3i] at t3
       have nw := Ws ((w.drop k).take m) (ZS i.toNat j.toNat m)
       have a1 := xu (w.take k) (ZS j.toNat i.toNat m) (by rw [g1c, xj]; omega)
       have a2 := xu (w.take k ++ ZS j.toNat i.toNat m) (w.drop (k + m)) (by rw [g0f, g1c, g1k, xj]; omega)
       by_cases c6 : (w.drop k).take m = ZS i.toNat j.toNat m
       ·rw [decide_eq_true c6, g1m] at nw
        rw [if_pos ⟨c0, c1, c2, c3, c4, c5', c6⟩]
        simp only [yf, yy, zU, zt, g0j, g0q, g0d, g0g, Nat.reduceAdd, Nat.reduceSub, g0i, g0r, g0p, zS, yv, vk, xN, yd, yx, yR, yh, zl, zy, zm, zu, g0c, g0b, g0a, hlw, Z7, jQ, c0, c1, decide_true, g1m, g0k, if_false, xv, mi, mj, wj, c4, decide_false, z9, tv, g0h, g0e, ud, ekm, c5', t3, i1, nw, zT, t1, i2, a1, t2, a2, z8, yZ]
       ·rw [decide_eq_false c6, g1n] at nw
        rw [if_neg (fun h => c6 h.2.2.2.2.2.2)]
        simp only [yf, yy, zU, zt, g0j, g0q, g0d, g0g, Nat.reduceAdd, Nat.reduceSub, g0i, g0r, g0p, zS, yv, vk, xN, yd, yx, yR, yh, zl, zy, zm, zu, g0c, g0b, g0a, hlw, Z7, jQ, c0, c1, decide_true, g1m, g0k, if_false, xv, mi, mj, wj, c4, decide_false, z9, tv, g0h, g0e, ud, ekm, c5', t3, i1, nw, if_true, zT, z8, yZ]
    ·rw [decide_eq_false c3] at mj
     rw [if_neg (fun h => c3 h.2.2.2.1)]
     simp only [yf, yy, zU, zt, g0j, g0q, g0d, g0g, Nat.reduceAdd, Nat.reduceSub, g0i, g0r, g0p, zS, yv, vk, xN, yd, yx, yR, yh, zl, zy, zm, zu, g0c, g0b, g0a, hlw, Z7, jQ, c0, c1, decide_true, g1m, g0k, if_false, xv, mi, mj, g1n, if_true, zT, z8, yZ]
   ·rw [decide_eq_false c2] at mi
    rw [if_neg (fun h => c2 h.2.2.1)]
    simp only [yf, yy, zU, zt, g0j, g0q, g0d, g0g, Nat.reduceAdd, Nat.reduceSub, g0i, g0r, g0p, zS, yv, vk, xN, yd, yx, yR, yh, zl, zy, zm, zu, g0c, g0b, g0a, hlw, Z7, jQ, c0, c1, decide_true, g1m, g0k, if_false, xv, mi, g1n, if_true, zT, z8, yZ]
  ·rw [if_neg (fun h => c1 h.2.1)]
   simp only [yf, yy, zU, zt, g0j, g0q, g0d, g0g, Nat.reduceAdd, Nat.reduceSub, g0i, g0r, g0p, zS, yv, vk, xN, yd, yx, yR, yh, zl, zy, zm, zu, g0c, g0b, g0a, hlw, Z7, jQ, c0, c1, decide_true, decide_false, g1n, if_true, zT, z8, yZ]
 ·rw [if_neg (fun h => c0 h.1)]
  simp only [yf, yy, zU, zt, g0j, g0q, g0d, g0g, Nat.reduceAdd, Nat.reduceSub, g0i, g0r, g0p, zS, yv, vk, xN, yd, yx, yR, yh, zl, zy, zm, zu, g0c, g0b, g0a, hlw, Z7, jQ, c0, decide_false, g1n, if_true, zT, z8, yZ]
theorem ix2 {x y z : D} {l : List D} : ixD (.tup (x :: y :: z :: l)) (.int 2) = some z := qr (xs := x :: y :: z :: l) (j := 2) (v := z) rfl
theorem ix3 {x y z t : D} {l : List D} : ixD (.tup (x :: y :: z :: t :: l)) (.int 3) = some t := qr (xs := x :: y :: z :: t :: l) (j := 3) (v := t) rfl
theorem Kq (n : Nat) {ts : List T3} (hg : yP ts) {w : List Nat} (hl : w.length <= 60) (mv : Mv) : zo [zi n ts, zh w, mvD mv] = some (yZ (X6 ts n w mv)) := by
 cases mv with
 | drop p =>
  have dv := KQ (n := n) ts hl p
  have es := C5
  simp only [zo, vz, zU, zt, g0j, g0q, g0d, g0g, Nat.reduceAdd, Nat.reduceSub, g0i, g0t, zS, yv, yd, zl, yh, yR, zy, zm, zu, g0c, g0b, g0a, mvD, ix0, ix1, es, if_true, zT, dv, z8]
 | turn p i j =>
  have dv := UJ n hg hl p i j
  have es := C4
  simp only [zo, vz, zU, zt, g0j, g0q, g0d, g0g, Nat.reduceAdd, Nat.reduceSub, g0i, g0t, zS, yv, yd, zl, yh, yR, zy, zm, zu, g0c, g0b, g0a, mvD, ix0, ix1, ix2, ix3, es, g0k, if_false, xv, zT, dv, z8]
def vA (ts : List T3) (n : Nat) : List Nat -> List Mv -> Option (List Nat)
 | w, [] => some w
 | w, mv :: ms => match X6 ts n w mv with
  | none => none
  | some w' => vA ts n w' ms
def UC (ts : List T3) (n : Nat) (u v : List Nat) : Option Nat := (g1f n).find? fun i => !decide (zR (zd ts) u (zX n i) = zR (zd ts) v (zX n i))
theorem Jk (ts : List T3) (n : Nat) (u v : List Nat) : UC ts n u v = UC ts n v u := by
 unfold UC
 congr 1
 funext i
 congr 1
 exact decide_eq_decide.mpr eq_comm
theorem XH {ts : List T3} {n : Nat} {u v : List Nat} (hu : InW n u) (hv : InW n v) : UC ts n u v = none ↔ Eqv (zd ts) n u v := by
 constructor
 ·intro h
  refine Uq hu hv fun k hk => ?_
  unfold UC at h
  rw [g3h] at h
  have := h k (List.mem_range.mpr hk)
  simpa using this
 ·intro h
  unfold UC
  rw [g3h]
  intro k _
  simp [h _ (zg n k)]
theorem HD (r s : List Gd) : neF (xn r) (xn s) = some (.bl (!decide (r = s))) := by
 unfold neF
 rw [if_pos (Bh r), KM]
noncomputable def paB : FS := ifS (blF (zc neF (zc ixD (vF 4) (cF (.int 0))) (zc ixD (vF 4) (cF (.int 1))))) (yY (vF 3)) nxF
theorem Ql (n : Nat) (ts : List T3) (u v : List Nat) (a0 a1 a2 : Slot) : ∀ (m i : Nat) (s1 s2 : Slot), ∃ o, y6 (Zs 2 (y7 (zQ 3) (y7 (zQ 4) YO))) paB (kP i ((List.range' i m).map fun j => D.tup [xn (zR (zd ts) u (zX n j)), xn (zR (zd ts) v (zX n j))])) [a0, a1, a2, s1, s2] = some o ∧
  JE ((some o).bind fun o => match o with | .nx ρ' => yY (cF .non) ρ' | o => some o) = some (Hk ((List.range' i m).find? fun i => !decide (zR (zd ts) u (zX n i) = zR (zd ts) v (zX n i))))
 | 0, i, s1, s2 => ⟨_, rfl, rfl⟩
 | m + 1, i, s1, s2 => by
  obtain ⟨o, h1, h2⟩ := Ql n ts u v a0 a1 a2 m (i + 1) (.fr (.int i)) (.fr (.tup [xn (zR (zd ts) u (zX n i)), xn (zR (zd ts) v (zX n i))]))
  have nr := HD (zR (zd ts) u (zX n i)) (zR (zd ts) v (zX n i))
  have i0 : ixD (.tup [xn (zR (zd ts) u (zX n i)), xn (zR (zd ts) v (zX n i))]) (.int 0) = _ := ix0
  have i1 : ixD (.tup [xn (zR (zd ts) u (zX n i)), xn (zR (zd ts) v (zX n i))]) (.int 1) = _ := ix1
  rw [List.range'_succ, g0j]
  unfold kP y6
  by_cases c : zR (zd ts) u (zX n i) = zR (zd ts) v (zX n i)
  ·have c' : decide (zR (zd ts) u (zX n i) = zR (zd ts) v (zX n i)) = true := decide_eq_true c
   rw [c', g1m] at nr
   refine ⟨o, ?_, by rw [List.find?_cons_of_neg (by rw [c']; simp)]; exact h2⟩
   simp only [paB, ki, qj, yN, kj, g0d, g0g, Nat.reduceAdd, if_true, g0h, g0e, g0a, yv, yd, zl, yh, yR, g0c, g0b, i0, i1, nr, g0k, if_false, xv]
   unfold paB at h1
   exact h1
  ·have c' : decide (zR (zd ts) u (zX n i) = zR (zd ts) v (zX n i)) = false := decide_eq_false c
   rw [c', g1n] at nr
   refine ⟨.rt (.int i), ?_, by rw [List.find?_cons_of_pos (by rw [c']; rfl)]; rfl⟩
   simp only [paB, ki, qj, yN, kj, g0d, g0g, Nat.reduceAdd, if_true, g0h, g0e, g0a, yv, yd, zl, yh, yR, g0c, g0b, i0, i1, nr, zT]
theorem JH (ts : List T3) (n : Nat) (u v : List Nat) : WR ((qg ts n u).map xn) ((qg ts n v).map xn) = (g1f n).map fun j => D.tup [xn (zR (zd ts) u (zX n j)), xn (zR (zd ts) v (zX n j))] := by
 unfold WR qg
 rw [g1o, g1o, List.zip_map', g1o]
 rfl
theorem V5 (n : Nat) {ts : List T3} (hg : yP ts) (hn : n <= 6) {u v : List Nat} (hu : InW n u) (hv : InW n v) : uW [zi n ts, zh u, zh v] = some (Hk (UC ts n u v)) := by
 obtain ⟨o, h1, h2⟩ := Ql n ts u v (.fr (zi n ts)) (.fr (zh u)) (.fr (zh v)) n 0 .no .no
 rw [<- List.range_eq_range'] at h1 h2
 rw [<- Yt] at h1
 have i1 := ue n hg (w := u) (by omega) hu
 have i2 := ue n hg (w := v) (by omega) hv
 have it : Yp (z5 xq (zb (vF 0) (zb (vF 1) zB))) (z5 xq (zb (vF 0) (zb (vF 2) zB))) [.fr (zi n ts), .fr (zh u), .fr (zh v), .no, .no] = some (x4 ((g1f n).map fun j => D.tup [xn (zR (zd ts) u (zX n j)), xn (zR (zd ts) v (zX n j))])) := by
  simp only [U2, W3, yU, zy, zm, zu, yh, g0b, g0c, g0a, i1, i2]
  have e1 : ke (vC (qg ts n u)) = some ((qg ts n u).map xn) := rfl
  have e2 : ke (vC (qg ts n v)) = some ((qg ts n v).map xn) := rfl
  simp only [e1, e2, g0a, JH]
 unfold uW YL
 unfold paB at h1
 simp only [zU, zt, g0j, g0q, g0d, g0g, Nat.reduceAdd, Nat.reduceSub, g0i, g0r, g0p, zS, wg, it, g0a]
 rw [h1]
 exact h2
theorem QW (b : Bool) (x : Option Nat) : isD b (Hk x) .non = some (.bl (xor b x.isNone)) := by
 cases x <;> cases b <;> rfl
theorem W1 (n : Nat) {ts : List T3} (hg : yP ts) (hn : n <= 6) {u v : List Nat} (hu : InW n u) (hv : InW n v) : kJ [zi n ts, zh u, zh v] = some (.bl (UC ts n u v).isNone) := by
 have pv := V5 n hg hn hu hv
 have io := QW false (UC ts n u v)
 rw [Bool.false_xor] at io
 simp only [kJ, JB, zU, zt, g0j, g0q, g0d, g0g, Nat.reduceAdd, Nat.reduceSub, g0i, g0t, zT, zl, zy, zm, zu, yh, yR, g0b, g0c, g0a, pv, io, z8]
theorem Xf (i j : Nat) : ∀ k, Yg i j k = (g0i k [i, j]).flatten
 | 0 => rfl
 | k + 1 => by rw [g1r, g2k, <- Xf i j k]; rfl
theorem WT {i j k : Nat} (h1 : 1 <= k) (h2 : k <= 40) : Kp (.tup [.int i, .int j]) (.int k) = some (zh (Yg i j k)) := by
 show (if _ then _ else _) = _
 have z : ([D.int j].length + 1) * ((k : Int)).toNat <= sizeLine := by
  have : ((k : Int)).toNat = k := by omega
  rw [this]
  exact szl (by simp; omega)
 rw [if_pos ⟨by omega, z⟩]
 have : ((k : Int)).toNat = k := by omega
 rw [this, Xf]
 unfold zh
 rw [List.map_flatten, List.map_replicate]
 rfl
theorem X4 (i j : Nat) {m : Nat} (h : m <= 6) : (Yg i j m).take m = ZS i j m := by
 match m, h with
 | 0, _ => rfl
 | 1, _ => rfl
 | 2, _ => rfl
 | 3, _ => rfl
 | 4, _ => rfl
 | 5, _ => rfl
 | 6, _ => rfl
theorem CG {w : List Nat} {k : Nat} (hk : k < w.length) : (w.drop k).take 1 = (w.drop (k + 1)).take 1 ↔ (k : Int) < (w.length : Int) - 1 /\ w[k]? = w[k + 1]? := by
 rw [g1j hk, List.take_succ_cons, List.take_zero, g0x hk]
 by_cases c : k + 1 < w.length
 ·rw [g1j c, List.take_succ_cons, List.take_zero, g0x c]
  simp
  intro _
  omega
 ·rw [g2d (by omega), List.take_nil]
  simp
  omega
theorem ZI (n : Nat) {ts : List T3} (hg : yP ts) {w : List Nat} (hl : w.length <= 60) (mv : Mv) : ym [zi n ts, zh w, mvD mv] = some (yZ (X6 ts n w mv)) := by
 have hlw : Zi [zh w] = some (.int (w.length : Int)) := by simp [zh]
 have en : ixD (zi n ts) (.int 0) = some (.int n) := by unfold zi; exact ix0
 have z2 : 0 + 1 + 1 <= sizeLine := szl (by decide)
 have z2' : 2 <= sizeLine := szl (by decide)
 cases mv with
 | drop p =>
  have es := C5
  show _ = some (yZ (Yx w p))
  unfold Yx
  by_cases c0 : p < 0
  ·rw [if_neg (fun h => by omega)]
   simp only [ym, xl, mvD, zU, zt, g0j, g0q, g0d, g0g, Nat.reduceAdd, Nat.reduceSub, g0i, g0r, g0p, zS, z9, yv, vk, yd, zl, yh, yR, zy, zm, zu, g0c, g0b, g0a, ix1, g0h, g0e, jQ, c0, decide_true, if_true, zT, z8, yZ]
  ·by_cases c1 : (w.length : Int) <= p
   ·rw [if_neg (fun h => by omega)]
    simp only [ym, xl, mvD, zU, zt, g0j, g0q, g0d, g0g, Nat.reduceAdd, Nat.reduceSub, g0i, g0r, g0p, zS, z9, yv, vk, yd, zl, yh, yR, zy, zm, zu, g0c, g0b, g0a, ix1, g0h, g0e, jQ, c0, decide_false, g0k, if_false, hlw, G3, c1, decide_true, if_true, zT, z8, yZ]
   ·obtain ⟨k, rfl⟩ : ∃ k : Nat, p = (k : Int) := ⟨p.toNat, by omega⟩
    have e0 : (k : Int).toNat = k := by omega
    have hk : k < w.length := by omega
    rw [e0]
    have ρ1 := W2 (f := vF 1) (g := vF 3) (h := zc yJ (vF 3) (cF (.int 1))) (ρ := [.fr (zi n ts), .fr (zh w), .fr (.tup [.str "drop", .int (k : Int)]), .fr (.int (k : Int)), .no, .no, .no]) (w := w) (a := k) (b := k + 1) rfl rfl rfl (by omega)
    have ρ2 := W2 (f := vF 1) (g := zc yJ (vF 3) (cF (.int 1))) (h := zc yJ (vF 3) (cF (.int 2))) (ρ := [.fr (zi n ts), .fr (zh w), .fr (.tup [.str "drop", .int (k : Int)]), .fr (.int (k : Int)), .no, .no, .no]) (w := w) (a := k + 1) (b := k + 2) rfl rfl rfl (by omega)
    have x1 : k + 1 - k = 1 := by omega
    have x2 : k + 2 - (k + 1) = 1 := by omega
    rw [x1] at ρ1
    rw [x2] at ρ2
    have t1 := qi (f := vF 1) (g := vF 3) (ρ := [.fr (zi n ts), .fr (zh w), .fr (.tup [.str "drop", .int (k : Int)]), .fr (.int (k : Int)), .no, .no, .no]) (w := w) (k := k) rfl rfl
    have t2 := qW (f := vF 1) (g := zc yJ (vF 3) (cF (.int 2))) (ρ := [.fr (zi n ts), .fr (zh w), .fr (.tup [.str "drop", .int (k : Int)]), .fr (.int (k : Int)), .no, .no, .no]) (w := w) (k := k + 2) rfl rfl
    have a1 := xu (w.take k) (w.drop (k + 2)) (by rw [g1c, g1k]; omega)
    have nw := Ws ((w.drop k).take 1) ((w.drop (k + 1)).take 1)
    have oe := CG hk
    by_cases c2 : (w.drop k).take 1 = (w.drop (k + 1)).take 1
    ·rw [decide_eq_true c2, g1m] at nw
     rw [if_pos ⟨by omega, (oe.mp c2).1, (oe.mp c2).2⟩]
     simp only [ym, xl, mvD, zU, zt, g0j, g0q, g0d, g0g, Nat.reduceAdd, Nat.reduceSub, g0i, g0r, g0p, zS, z9, yv, vk, yd, zl, yh, yR, zy, zm, zu, g0c, g0b, g0a, ix0, ix1, g0h, g0e, jQ, c0, decide_false, g0k, if_false, hlw, G3, c1, xv, es, if_true, ρ1, ρ2, nw, zT, t1, t2, a1, z8, yZ]
    ·rw [decide_eq_false c2, g1n] at nw
     rw [if_neg (fun h => c2 (oe.mpr h.2))]
     simp only [ym, xl, mvD, zU, zt, g0j, g0q, g0d, g0g, Nat.reduceAdd, Nat.reduceSub, g0i, g0r, g0p, zS, z9, yv, vk, yd, zl, yh, yR, zy, zm, zu, g0c, g0b, g0a, ix0, ix1, g0h, g0e, jQ, c0, decide_false, g0k, if_false, hlw, G3, c1, xv, es, if_true, ρ1, ρ2, nw, zT, z8, yZ]
 | turn p i j =>
  have es := C4
  have lm := CL n ts i j
  have hm := vI hg i j
  show _ = some (yZ (ka ts n w p i j))
  unfold ka
  by_cases c0 : p < 0
  ·rw [if_neg (fun h => by omega)]
   simp only [ym, xl, mvD, zU, zt, g0j, g0q, g0d, g0g, Nat.reduceAdd, Nat.reduceSub, g0i, g0r, g0p, zS, z9, yv, vk, yd, zl, yh, yR, zy, zm, zu, g0c, g0b, g0a, ix1, g0h, g0e, jQ, c0, decide_true, if_true, zT, z8, yZ]
  ·by_cases c1 : (w.length : Int) <= p
   ·rw [if_neg (fun h => by omega)]
    simp only [ym, xl, mvD, zU, zt, g0j, g0q, g0d, g0g, Nat.reduceAdd, Nat.reduceSub, g0i, g0r, g0p, zS, z9, yv, vk, yd, zl, yh, yR, zy, zm, zu, g0c, g0b, g0a, ix1, g0h, g0e, jQ, c0, decide_false, g0k, if_false, hlw, G3, c1, decide_true, if_true, zT, z8, yZ]
   ·obtain ⟨k, rfl⟩ : ∃ k : Nat, p = (k : Int) := ⟨p.toNat, by omega⟩
    have e0 : (k : Int).toNat = k := by omega
    rw [e0]
    have tst : ∀ ρ : Rho, ρ[0]? = some (.fr (zi n ts)) -> ρ[4]? = some (.fr (.int i)) -> ρ[5]? = some (.fr (.int j)) -> orT (blF (zc eqF (vF 4) (vF 5))) (orT (Wq (blF (uM leD ltD (cF (.int 0)) (vF 4) (zc ixD (vF 0) (cF (.int 0)))))) (orT (Wq (blF (uM leD ltD (cF (.int 0)) (vF 5) (zc ixD (vF 0) (cF (.int 0)))))) (blF (zc eqF (z5 Xy (zb (vF 0) (zb (vF 4) (zb (vF 5) zB)))) (cF (.int 0)))))) ρ =
      some (decide (¬ ((0 <= i /\ i < (n : Int)) /\ (0 <= j /\ j < (n : Int)) /\ i ≠ j /\ yQ ts i j ≠ 0))) := by
     intro ρ r0 r4 r5
     by_cases d1 : i = j
     ·simp only [vk, yd, zl, yh, r4, r5, g0a, wj, d1, decide_true, if_true]
      simp
     ·by_cases d2 : 0 <= i /\ i < (n : Int)
      ·by_cases d3 : 0 <= j /\ j < (n : Int)
       ·simp only [vk, xN, yd, zl, yh, yR, zy, zm, zu, yx, r0, r4, r5, g0a, wj, d1, decide_false, g0k, if_false, Z7, jQ, d2.1, d2.2, d3.1, d3.2, decide_true, en, g1m, lm]
        simp [d1, d2, d3]
       ·by_cases d4 : 0 <= j
        ·have d5 : ¬ (j < (n : Int)) := fun h => d3 ⟨d4, h⟩
         simp only [vk, xN, yd, zl, yh, yR, zy, zm, zu, yx, r0, r4, r5, g0a, wj, d1, decide_false, g0k, if_false, Z7, jQ, d2.1, d2.2, d4, d5, decide_true, en, g1m, g1n, if_true]
         simp [d5]
        ·simp only [vk, xN, yd, zl, yh, yR, zy, zm, zu, yx, r0, r4, r5, g0a, wj, d1, decide_false, g0k, if_false, Z7, jQ, d2.1, d2.2, d4, decide_true, en, g1m, g1n, if_true]
         simp [d4]
      ·by_cases d4 : 0 <= i
       ·have d5 : ¬ (i < (n : Int)) := fun h => d2 ⟨d4, h⟩
        simp only [vk, xN, yd, zl, yh, yR, yx, r0, r4, r5, g0a, wj, d1, decide_false, g0k, if_false, Z7, jQ, d4, d5, decide_true, en, g1n, if_true]
        simp [d5]
       ·simp only [vk, xN, yd, zl, yh, yR, yx, r0, r4, r5, g0a, wj, d1, decide_false, g0k, if_false, Z7, jQ, d4, decide_true, en, g1n, if_true]
        simp [d4]
    have tst' := tst [.fr (zi n ts), .fr (zh w), .fr (.tup [.str "turn", .int (k : Int), .int i, .int j]), .fr (.int (k : Int)), .fr (.int i), .fr (.int j), .no] rfl rfl rfl
    have gt : ∀ d : D, orT (blF (zc ltD (vF 3) (cF (.int 0)))) (blF (zc geD (vF 3) (z5 Zi (zb (vF 1) zB)))) [.fr (zi n ts), .fr (zh w), .fr d, .fr (.int (k : Int)), .no, .no, .no] = some false := fun d => by
     simp only [vk, yd, zl, yh, yR, zy, zm, zu, g0c, g0b, g0a, jQ, c0, decide_false, g0k, if_false, hlw, G3, c1]
    by_cases c2 : (0 <= i /\ i < (n : Int)) /\ (0 <= j /\ j < (n : Int)) /\ i ≠ j /\ yQ ts i j ≠ 0
    ·rw [decide_eq_false (fun h => h c2)] at tst'
     obtain ⟨⟨d1, d2⟩, ⟨d3, d4⟩, d5, d6⟩ := id c2
     obtain ⟨m, em⟩ : ∃ m : Nat, yQ ts i j = (m : Int) := ⟨(yQ ts i j).toNat, by omega⟩
     rw [em] at lm hm d6 ⊢
     have e1 : (m : Int).toNat = m := by omega
     rw [e1]
     obtain ⟨a, rfl⟩ : ∃ a : Nat, i = (a : Int) := ⟨i.toNat, by omega⟩
     obtain ⟨b, rfl⟩ : ∃ b : Nat, j = (b : Int) := ⟨j.toNat, by omega⟩
     have e2 : (a : Int).toNat = a := by omega
     have e3 : (b : Int).toNat = b := by omega
     rw [e2, e3]
     have hm1 : 1 <= m /\ m <= 6 := by omega
     have wm1 := WT (i := a) (j := b) (k := m) hm1.1 (by omega)
     have wm2 := WT (i := b) (j := a) (k := m) hm1.1 (by omega)
     have ekm : (k : Int) + (m : Int) = ((k + m : Nat) : Int) := by omega
     let ρ : Rho := [.fr (zi n ts), .fr (zh w), .fr (.tup [.str "turn", .int (k : Int), .int (a : Int), .int (b : Int)]), .fr (.int (k : Int)), .fr (.int (a : Int)), .fr (.int (b : Int)), .fr (.int (m : Int))]
     have tw1 : zc Kp (tupF (zb (vF 4) (zb (vF 5) zB))) (vF 6) ρ = some (zh (Yg a b m)) := by
      simp only [ρ, zl, wH, zm, zu, yh, g0c, g0b, g0a, g0d, g0g, if_pos z2, if_pos z2', Nat.reduceAdd, wm1]
     have tw2 : zc Kp (tupF (zb (vF 5) (zb (vF 4) zB))) (vF 6) ρ = some (zh (Yg b a m)) := by
      simp only [ρ, zl, wH, zm, zu, yh, g0c, g0b, g0a, g0d, g0g, if_pos z2, if_pos z2', Nat.reduceAdd, wm2]
     have p1 := qi (g := vF 6) (k := m) tw1 rfl
     have p2 := qi (g := vF 6) (k := m) tw2 rfl
     rw [X4 a b hm1.2] at p1
     rw [X4 b a hm1.2] at p2
     have t3 := W2 (f := vF 1) (g := vF 3) (h := zc yJ (vF 3) (vF 6)) (ρ := ρ) (w := w) (a := k) (b := k + m) rfl rfl (by simp only [ρ, zl, yh, g0c, g0b, g0a, ud, ekm]) (by omega)
     rw [g3i] at t3
     have t1 := qi (f := vF 1) (g := vF 3) (ρ := ρ) (w := w) (k := k) rfl rfl
     have t2 := qW (f := vF 1) (g := zc yJ (vF 3) (vF 6)) (ρ := ρ) (w := w) (k := k + m) rfl (by simp only [ρ, zl, yh, g0c, g0b, g0a, ud, ekm])
     have nw := Ws ((w.drop k).take m) (ZS a b m)
     have a1 := xu (w.take k) (ZS b a m) (by rw [g1c, xj]; omega)
     have a2 := xu (w.take k ++ ZS b a m) (w.drop (k + m)) (by rw [g0f, g1c, g1k, xj]; omega)
     simp only [ρ] at p1 p2 t1 t2 t3
     by_cases c6 : (w.drop k).take m = ZS a b m
     ·rw [decide_eq_true c6, g1m] at nw
      rw [if_pos ⟨by omega, by omega, c2.1, c2.2.1, d5, d6, c6⟩]
      simp only [ym, xl, mvD, zU, zt, g0j, g0q, g0d, g0g, Nat.reduceAdd, Nat.reduceSub, g0i, g0r, g0p, zS, z9, yv, yd, zl, yh, yR, zy, zm, zu, g0c, g0b, g0a, ix0, ix1, ix2, ix3, g0h, g0e, tst', g0k, if_false, xv, es, lm, t3, p1, nw, zT, t1, p2, a1, t2, a2, z8, yZ, gt]
     ·rw [decide_eq_false c6, g1n] at nw
      rw [if_neg (fun h => c6 h.2.2.2.2.2.2)]
      simp only [ym, xl, mvD, zU, zt, g0j, g0q, g0d, g0g, Nat.reduceAdd, Nat.reduceSub, g0i, g0r, g0p, zS, z9, yv, yd, zl, yh, yR, zy, zm, zu, g0c, g0b, g0a, ix0, ix1, ix2, ix3, g0h, g0e, tst', g0k, if_false, xv, es, lm, t3, p1, nw, if_true, zT, z8, yZ, gt]
    ·rw [decide_eq_true c2] at tst'
     rw [if_neg (fun h => c2 ⟨h.2.2.1, h.2.2.2.1, h.2.2.2.2.1, h.2.2.2.2.2.1⟩)]
     simp only [ym, xl, mvD, zU, zt, g0j, g0q, g0d, g0g, Nat.reduceAdd, Nat.reduceSub, g0i, g0r, g0p, zS, z9, yv, zl, yd, yh, yR, g0c, g0b, g0a, ix0, ix1, ix2, ix3, g0h, g0e, gt, tst', g0k, if_false, if_true, xv, es, zT, z8, yZ]
theorem GO (i j m : Nat) : ZS i j m = wc i j m := rfl
theorem ZU {w : List Nat} {i : Nat} {a : Nat} (h : w[i]? = some a) : ixD (zh w) (.int (i : Int)) = some (.int (a : Int)) := by
 unfold zh
 exact VE (by rw [g0w, h]; rfl)
theorem w6 {ts : List T3} {n : Nat} : ∀ (a : List Mv) {w w' : List Nat} (b : List Mv), vA ts n w a = some w' -> vA ts n w (a ++ b) = vA ts n w' b
 | [], w, w', b, h => by cases h; rfl
 | mv :: a, w, w', b, h => by
  unfold vA at h
  rw [g0r]
  rw [vA]
  cases c : X6 ts n w mv with
  | none => rw [c] at h; cases h
  | some w2 => rw [c] at h; exact w6 a b h
theorem WU {ts : List T3} {n : Nat} {w w' : List Nat} {mv : Mv} (h : X6 ts n w mv = some w') : vA ts n w [mv] = some w' := by
 unfold vA; rw [h]; rfl
theorem GJ (n : Nat) {ts : List T3} (hg : yP ts) {w w' : List Nat} (hl : w.length <= 60) {mv : Mv} (h : X6 ts n w mv = some w') (ms : List Mv) (hm : ms.length <= 2 ^ 20) :
  doD zo (zi n ts) (zh w, ms.map mvD) (mvD mv) = some (zh w', (ms ++ [mv]).map mvD) := by
 have hs : (ms.map mvD).length < sizeLine := by rw [g1l]; exact g3g hm (by decide)
 unfold doD
 rw [Kq n hg hl mv, h]
 show (if (ms.map mvD).length < sizeLine then some (zh w', ms.map mvD ++ [mvD mv]) else none) = _
 rw [if_pos hs, g1x]
 rfl
section
variable {n : Nat} {ts : List T3}
def JD (n : Nat) (ts : List T3) (L : Nat) : Prop := ∀ (s pre : List Nat) (t : Nat) (ms : List Mv) (fuel : Nat), s.length = L -> Sh ts n s -> Dn ts n s t -> t < n -> InW n pre -> pre.length + s.length <= 60 -> L < fuel -> ms.length + 2 ^ L <= 2 ^ 20 →
 ∃ (P : List Mv) (s' : List Nat), wI zo zx zA (zi n ts) fuel (zh (pre ++ s), ms.map mvD) (.int (pre.length : Int)) (.int (t : Int)) = some (zh (pre ++ t :: s'), (ms ++ P).map mvD) ∧
  vA ts n (pre ++ s) P = some (pre ++ t :: s') /\ InW n (t :: s') /\ (t :: s').length = s.length /\ Eqv (zd ts) n (t :: s') s /\ P.length + 1 <= 2 ^ L
theorem ZP (hg : yP ts) {L : Nat} (ih : ∀ L', L' < L -> JD n ts L') {s c pre : List Nat} (hsl : s.length = L) (hs : Sh ts n s) {f t m : Nat} (hf : f < n) (ht : t < n) (hm : m <= 6) (hc : InW n c) (e : Eqv (zd ts) n (wc f t m ++ c) s) (hl : m + c.length = s.length) (hp : InW n pre) (hpl : pre.length + s.length <= 60) {ms : List Mv} {fuel : Nat} (hfu : L <= fuel) (hms : ms.length + 2 ^ L <= 2 ^ 20) :
  ∀ (j k : Nat) (x : List Nat) (P : List Mv), k + j = m -> 1 <= k -> InW n x -> Eqv (zd ts) n (wc f t k ++ x) s -> k + x.length = s.length -> vA ts n (pre ++ s) P = some (pre ++ (wc f t k ++ x)) -> P.length + 2 ^ (L - k + 1) <= 2 ^ L →
   ∃ (P' : List Mv) (x' : List Nat), vD (fun k ws => (yJ (.int (pre.length : Int)) k).bind fun pk => (ixD (zh (ZS f t m)) k).bind fun sk => wI zo zx zA (zi n ts) fuel ws pk sk) (yk (k : Int) (m : Int)) (zh (pre ++ (wc f t k ++ x)), (ms ++ P).map mvD) = some (zh (pre ++ (wc f t m ++ x')), (ms ++ P').map mvD) ∧
    InW n x' /\ Eqv (zd ts) n (wc f t m ++ x') s /\ m + x'.length = s.length /\ vA ts n (pre ++ s) P' = some (pre ++ (wc f t m ++ x')) /\ P'.length + 2 ^ (L - m + 1) <= 2 ^ L
 | 0, k, x, P, hk, h1, hx, ex, hxl, hw, hP => by
  have : k = m := by omega
  subst this
  rw [wZ (g0o _)]
  exact ⟨P, x, rfl, hx, ex, hxl, hw, hP⟩
 | j + 1, k, x, P, hk, h1, hx, ex, hxl, hw, hP => by
  obtain ⟨sx, dx⟩ := Kt hg hs hf ht (show k < m by omega) hc e hl hx ex hxl
  have hL : x.length = L - k := by omega
  have hlt : L - k < L := by omega
  have hpow : 2 ^ (L - k) <= 2 ^ L := g2h (by decide) (by omega)
  have hpw : 2 ^ (L - k + 1) = 2 ^ (L - k) + 2 ^ (L - k) := by rw [Nat.pow_succ]; omega
  have hpos : 1 <= 2 ^ (L - k) := Nat.one_le_two_pow
  have hg2 : (if k % 2 = 0 then f else t) < n := by split <;> assumption
  obtain ⟨P1, x1, b1, b2, b3, b4, b5, b6⟩ := ih (L - k) hlt x (pre ++ wc f t k) (if k % 2 = 0 then f else t) (ms ++ P) fuel hL sx dx hg2 (hp.app (YJ hf ht k)) (by rw [g0f, yD]; omega) (by omega) (by rw [g0f]; omega)
  have ea : wc f t (k + 1) = wc f t k ++ [if k % 2 = 0 then f else t] := by
   unfold wc
   rw [List.range_succ, g1x]
   rfl
  have ew : pre ++ wc f t k ++ (if k % 2 = 0 then f else t) :: x1 = pre ++ (wc f t (k + 1) ++ x1) := by rw [ea]; simp
  have ew0 : pre ++ wc f t k ++ x = pre ++ (wc f t k ++ x) := by simp
  have hx1 : InW n x1 := fun y hy => b3 y (g0n _ hy)
  have ex1 : Eqv (zd ts) n (wc f t (k + 1) ++ x1) s := by
   rw [ea, g1g]
   exact ((Eqv.rfl' _).app b5).trans ex
  rw [ew0] at b1 b2
  rw [ew] at b1 b2
  have hw1 : vA ts n (pre ++ s) (P ++ P1) = some (pre ++ (wc f t (k + 1) ++ x1)) := by rw [w6 P P1 hw]; exact b2
  have hx1l : x1.length + 1 = x.length := by simpa using b4
  obtain ⟨P2, x2, c1, c2, c3, c4, c5, c6⟩ := ZP hg ih hsl hs hf ht hm hc e hl hp hpl hfu hms j (k + 1) x1 (P ++ P1) (by omega) (by omega) hx1 ex1 (by omega) hw1 (by
   rw [g0f]
   have : L - (k + 1) + 1 = L - k := by omega
   rw [this]
   omega)
  refine ⟨P2, x2, ?_, c2, c3, c4, c5, c6⟩
  rw [xV (show k < m by omega)]
  unfold vD
  have e1 : yJ (.int (pre.length : Int)) (.int (k : Int)) = some (.int ((pre ++ wc f t k).length : Int)) := by
   rw [g0f, yD]
   show some (D.int ((pre.length : Int) + (k : Int))) = _
   simp
  have e2 : ixD (zh (ZS f t m)) (.int (k : Int)) = some (.int ((if k % 2 = 0 then f else t : Nat) : Int)) := by
   apply ZU
   unfold ZS
   rw [g0w, List.getElem?_range (by omega)]
   rfl
  rw [e1, g0a, e2, g0a, b1, g0a]
  rw [g1g]
  exact c1
theorem XX (hg : yP ts) (hn : n <= 6) : ∀ L, JD n ts L := by
 intro L
 induction L using Nat.strongRecOn with
 | _ L ih =>
  intro s pre t ms fuel hsl hs hd ht hp hpl hfu hms
  obtain ⟨fu, rfl⟩ : ∃ fu, fuel = fu + 1 := ⟨fuel - 1, by omega⟩
  cases s with
  | nil =>
   obtain ⟨r, _, _, h⟩ := hd
   simp at h
  | cons f r =>
   have hf : f < n := hs.1 f (by simp)
   have hix : ixD (zh (pre ++ f :: r)) (.int (pre.length : Int)) = some (.int (f : Int)) := ZU (by simp)
   have hL1 : 1 <= L := by rw [<- hsl]; simp
   by_cases c : f = t
   ·subst c
    refine ⟨[], r, ?_, rfl, hs.1, rfl, Eqv.rfl' _, ?_⟩
    ·unfold wI
     rw [hix, g0a, wj, g0a]
     simp
    ·have := g2h (n := 2) (by decide) hL1
     simp
     omega
   ·obtain ⟨cc, m, em, hm, hc, e, br, hl⟩ := JL hg hs c hf ht (Dn.head hs.1) hd
    have hmL : m <= L := by omega
    obtain ⟨P', x', b1, b2, b3, b4, b5, b6⟩ := ZP hg ih hsl hs hf ht hm.2 hc e hl hp hpl (fuel := fu) (by omega) hms (m - 1) 1 r [] (by omega) (g0o _) (fun y hy => hs.1 y (g0n _ hy)) (Eqv.rfl' _) (by simp; omega) rfl (by
     have : L - 1 + 1 = L := by omega
     rw [this]; simp)
    have hpw : 2 <= 2 ^ (L - m + 1) := by rw [Nat.pow_succ]; have := Nat.one_le_two_pow (n := L - m); omega
    obtain ⟨y, ey⟩ : ∃ y, wc t f m = t :: y := by
     obtain ⟨q, rfl⟩ : ∃ q, m = q + 1 := ⟨m - 1, by omega⟩
     refine ⟨(wc t f (q + 1)).drop 1, ?_⟩
     have := g1j (l := wc t f (q + 1)) (i := 0) (by rw [yD]; omega)
     rw [List.drop_zero] at this
     rw [this]
     congr 1
     simp [wc]
    have mv : X6 ts n (pre ++ (wc f t m ++ x')) (.turn pre.length f t) = some (pre ++ (wc t f m ++ x')) := by
     show ka ts n _ _ _ _ = _
     unfold ka
     have tn : (yQ ts (f : Int) (t : Int)).toNat = m := by rw [em]; simp
     rw [tn, if_pos]
     ·simp only [Int.toNat_natCast, GO]
      congr 1
      rw [List.take_left, g1g]
      congr 2
      have : pre.length + m = (pre ++ wc f t m).length := by rw [g0f, yD]
      rw [<- g1g, this, List.drop_left]
     ·refine ⟨by omega, ?_, ⟨by omega, by omega⟩, ⟨by omega, by omega⟩, by omega, by omega, ?_⟩
      ·rw [g0f, g0f, yD]
       omega
      ·simp only [Int.toNat_natCast, GO]
       rw [List.drop_left]
       exact List.take_left' (yD f t m)
    refine ⟨P' ++ [.turn pre.length f t], y ++ x', ?_, ?_, ?_, ?_, ?_, ?_⟩
    ·unfold wI
     have ne : ¬ ((f : Int) = (t : Int)) := by omega
     rw [hix, g0a, wj, decide_eq_false ne, g0a]
     show ((zx [zi n ts, .int (f : Int), .int (t : Int)]).bind _) = _
     rw [ZW, em, g0a, jg (f : Int) (t : Int) f t m rfl rfl (by omega), g0a]
     have rb : jD [.int 1, .int (m : Int)] = some (yk ((1 : Nat) : Int) (m : Int)) := Xc (by decide) (by decide) (by omega) (by omega)
     rw [rb, g0a]
     have b1' := b1
     rw [g0t, show wc f t 1 ++ r = f :: r from rfl] at b1'
     rw [b1', g0a]
     have dv := GJ n hg (w := pre ++ (wc f t m ++ x')) (by rw [g0f, g0f, yD]; omega) mv (ms ++ P') (by rw [g0f]; omega)
     have em2 : (D.tup [.str "turn", .int (pre.length : Int), .int (f : Int), .int (t : Int)]) = mvD (.turn pre.length f t) := rfl
     rw [em2, dv, ey, g1g]
     rfl
    ·rw [w6 P' _ b5, WU mv, ey]
     rfl
    ·have := (YJ ht hf m).app b2
     rw [ey] at this
     exact this
    ·have := congrArg g2u ey
     rw [yD] at this
     simp only [g0d, g0f] at this b4 ⊢
     omega
    ·have : Eqv (zd ts) n (wc t f m ++ x') (f :: r) := (br.symm.app (Eqv.rfl' x')).trans b3
     rw [ey] at this
     exact this
    ·rw [g0f]
     simp
     omega
theorem Us (i : Nat) : XG (((i + 1 : Nat) : Int) - 1) (-1) = .int (i : Int) :: XG ((i : Int) - 1) (-1) := by
 unfold XG
 have e1 : (((i + 1 : Nat) : Int) - 1 - -1).toNat = i + 1 := by omega
 have e2 : ((i : Int) - 1 - -1).toNat = i := by omega
 rw [e1, e2, g2b, g0j, g1o]
 refine congr (congrArg List.cons (congrArg D.int (by omega))) ?_
 apply g2l
 intro k _
 simp only [Function.comp]
 congr 1
 omega
theorem qV (hg : yP ts) (hn : n <= 6) {w : List Nat} (hw : InW n w) (hwl : w.length <= 11) : ∀ (i : Nat) (s : List Nat) (P : List Mv), i <= w.length -> Sh ts n s -> Eqv (zd ts) n s (w.drop i) -> i + s.length <= w.length -> vA ts n w P = some (w.take i ++ s) -> P.length + i * 2049 <= w.length * 2049 →
  ∃ (P' : List Mv) (s' : List Nat), vD (jA zo zx zA ye (zi n ts) 12) (XG ((i : Int) - 1) (-1)) (zh (w.take i ++ s), P.map mvD) = some (zh s', P'.map mvD) /\ Sh ts n s' /\ Eqv (zd ts) n s' w /\ s'.length <= w.length /\ vA ts n w P' = some s' /\ P'.length <= w.length * 2049
 | 0, s, P, _, hs, e, hl, hP, hPl => by
  have : XG (((0 : Nat) : Int) - 1) (-1) = [] := rfl
  rw [this]
  exact ⟨P, s, rfl, hs, e, by omega, hP, by omega⟩
 | i + 1, s, P, hi, hs, e, hl, hP, hPl => by
  obtain ⟨a, ea⟩ : ∃ a, w[i]? = some a := ⟨w[i], g0x (by omega)⟩
  have ha : a < n := hw a (g2g ea)
  have et : w.take (i + 1) = w.take i ++ [a] := by rw [List.take_add_one, ea]; rfl
  have ed : w.drop i = a :: w.drop (i + 1) := by
   obtain ⟨h1, rfl⟩ := g0y.mp ea
   exact g1j h1
  have tl : (w.take i).length = i := by rw [g1c]; omega
  have tl1 : (w.take (i + 1)).length = i + 1 := by rw [g1c]; omega
  have ew : w.take (i + 1) ++ s = w.take i ++ (a :: s) := by rw [et]; simp
  have hin : InW n (a :: s) := InW.cons ha hs.1
  have hti : InW n (w.take i) := fun x hx => hw x (g2j hx)
  have cd : D.tup (qS ((w.take (i + 1) ++ s).map fun (i : Nat) => D.int (i : Int)) (some (i : Int)) none) = zh (a :: s) := by
   rw [YS, ew]
   congr 1
   exact List.drop_left' tl
  have sv := Ww n hg hn hin (by simp; omega)
  rw [<- cd] at sv
  have eas : Eqv (zd ts) n (a :: s) (w.drop i) := by
   rw [ed]
   exact (Eqv.rfl' [a]).app e
  rw [Us]
  by_cases c : Sh ts n (a :: s)
  ·rw [(Y4 hg hin).mpr c] at sv
   obtain ⟨P', s', r1, r2⟩ := qV hg hn hw hwl i (a :: s) P (by omega) c eas (by simp; omega) (by rw [hP, ew]) (by omega)
   refine ⟨P', s', ?_, r2⟩
   unfold vD
   have st := JS zo zx zA ye (n := 12) (ms := P.map mvD) sv
   rw [show zh (w.take (i + 1) ++ s) = .tup ((w.take (i + 1) ++ s).map fun (i : Nat) => D.int (i : Int)) from rfl, st, g0a]
   rw [show D.tup ((w.take (i + 1) ++ s).map fun (i : Nat) => D.int (i : Int)) = zh (w.take (i + 1) ++ s) from rfl, ew]
   exact r1
  ·have bf : (wG ts n [] (a :: s)).all id = false := by
    cases z : (wG ts n [] (a :: s)).all id with
    | false => rfl
    | true => exact absurd ((Y4 hg hin).mp z) c
   rw [bf] at sv
   have dn := Qz hg hs ha c
   have hpw : 2 ^ s.length <= 2048 := by
    have : 2 ^ s.length <= 2 ^ 11 := g2h (by decide) (by omega)
    exact this
   obtain ⟨P1, s1, b1, b2, b3, b4, b5, b6⟩ := XX hg hn s.length s (w.take (i + 1)) a P 12 rfl hs dn ha (fun x hx => hw x (g2j hx)) (by omega) (by omega) (by omega)
   rw [tl1] at b1
   have hs1 : Sh ts n (a :: s1) := hs.of b3 b5 b4
   have hs1' : Sh ts n s1 := Sh.cut (a := [a]) (b := s1) (c := []) (by simpa using hs1)
   have ew1 : w.take (i + 1) ++ a :: s1 = w.take i ++ (a :: a :: s1) := by rw [et]; simp
   have mv : X6 ts n (w.take (i + 1) ++ a :: s1) (.drop (i : Int)) = some (w.take i ++ s1) := by
    rw [ew1]
    show Yx _ _ = _
    unfold Yx
    rw [if_pos]
    ·simp only [Int.toNat_natCast]
     rw [List.take_left' tl]
     congr 2
     have : i + 2 = (w.take i ++ [a, a]).length := by rw [g0f, tl]; rfl
     rw [show w.take i ++ a :: a :: s1 = (w.take i ++ [a, a]) ++ s1 by simp, this, List.drop_left]
    ·refine ⟨by omega, ?_, ?_⟩
     ·rw [g0f, tl]
      simp
      omega
     ·simp only [Int.toNat_natCast]
      rw [g0z (by omega), g0z (by omega), tl, Nat.sub_self, g3i]
      rfl
   have dv := GJ n hg (w := w.take (i + 1) ++ a :: s1) (by rw [g0f, tl1]; omega) mv (P ++ P1) (by rw [g0f]; omega)
   have e1 : Eqv (zd ts) n s1 (w.drop i) := by
    have h2 := zW ts
    have k1 : Eqv (zd ts) n ([a] ++ (a :: s1)) ([a] ++ s) := (Eqv.rfl' [a]).app b5
    have k2 : Eqv (zd ts) n ([a, a] ++ s1) ([] ++ s1) := (Eqv.twice h2 ha).app (Eqv.rfl' s1)
    exact k2.symm.trans (k1.trans eas)
   have l1 : s1.length + 1 = s.length := by simpa using b4
   obtain ⟨P', s', r1, r2⟩ := qV hg hn hw hwl i s1 ((P ++ P1) ++ [.drop (i : Int)]) (by omega) hs1' e1 (by omega) (by
    rw [w6 (P ++ P1) _ (show vA ts n w (P ++ P1) = some (w.take (i + 1) ++ a :: s1) by rw [w6 P P1 hP]; exact b2), WU mv]) (by
    simp only [g0f, g0d, g0g]
    omega)
   refine ⟨P', s', ?_, r2⟩
   unfold vD
   have ixa : ixD (.tup ((w.take (i + 1) ++ s).map fun (i : Nat) => D.int (i : Int))) (.int (i : Int)) = some (.int (a : Int)) := ZU (by
    rw [ew, g0z (by omega), tl, Nat.sub_self]
    rfl)
   have st := JT zo zx zA ye (n := 12) (ms := P.map mvD) sv ixa (show _ = some _ from b1) (show _ = some _ from dv)
   rw [show zh (w.take (i + 1) ++ s) = .tup ((w.take (i + 1) ++ s).map fun (i : Nat) => D.int (i : Int)) from rfl, st, g0a]
   exact r1
theorem ZJ (hg : yP ts) (hn : n <= 6) {v s0 : List Nat} (hv : Sh ts n v) (hvl : v.length <= 11) {ms : List Mv} (hms : ms.length <= 40000) : ∀ (j k : Nat) (x : List Nat) (P : List Mv), k + j = v.length -> InW n x -> Eqv (zd ts) n (v.take k ++ x) v -> k + x.length = v.length -> vA ts n s0 P = some (v.take k ++ x) -> P.length <= k * 2048 →
  ∃ P' : List Mv, vD (Xu zo zx zA (zi n ts) 12) (kP k ((v.drop k).map fun (i : Nat) => D.int (i : Int))) (zh (v.take k ++ x), (ms ++ P).map mvD) = some (zh v, (ms ++ P').map mvD) /\ vA ts n s0 P' = some v /\ P'.length <= v.length * 2048
 | 0, k, x, P, hk, hx, e, hl, hP, hPl => by
  have hx0 : x = [] := g2r (by omega)
  subst hx0
  have : v.take k = v := g2c (by omega)
  rw [g2d (by omega)]
  rw [this, g0t] at hP ⊢
  exact ⟨P, rfl, hP, by omega⟩
 | j + 1, k, x, P, hk, hx, e, hl, hP, hPl => by
  obtain ⟨a, ea⟩ : ∃ a, v[k]? = some a := ⟨v[k], g0x (by omega)⟩
  have ha : a < n := hv.1 a (g2g ea)
  have et : v.take (k + 1) = v.take k ++ [a] := by rw [List.take_add_one, ea]; rfl
  have ed : v.drop k = a :: v.drop (k + 1) := by
   obtain ⟨h1, rfl⟩ := g0y.mp ea
   exact g1j h1
  have tl : (v.take k).length = k := by rw [g1c]; omega
  have hti : InW n (v.take k) := fun y hy => hv.1 y (g2j hy)
  have sh1 : Sh ts n (v.take k ++ x) := hv.of (hti.app hx) e (by rw [g0f, tl]; omega)
  have sx : Sh ts n x := Sh.cut (a := v.take k) (b := x) (c := []) (by simpa using sh1)
  have e2 : Eqv (zd ts) n x (v.drop k) := Vu hti (by rw [List.take_append_drop]; exact e)
  have dn : Dn ts n x a := ⟨v.drop (k + 1), fun y hy => hv.1 y (g2i hy), by rw [<- ed]; exact e2.symm, by rw [g1k]; omega⟩
  have hpw : 2 ^ x.length <= 2048 := by
   have : 2 ^ x.length <= 2 ^ 11 := g2h (by decide) (by omega)
   exact this
  obtain ⟨P1, x1, b1, b2, b3, b4, b5, b6⟩ := XX hg hn x.length x (v.take k) a (ms ++ P) 12 rfl sx dn ha hti (by omega) (by omega) (by rw [g0f]; omega)
  have ew : v.take k ++ a :: x1 = v.take (k + 1) ++ x1 := by rw [et]; simp
  rw [tl, ew, g1g] at b1
  rw [ew] at b2
  have e3 : Eqv (zd ts) n (v.take (k + 1) ++ x1) v := by
   rw [<- ew]
   exact ((Eqv.rfl' _).app b5).trans e
  have l1 : x1.length + 1 = x.length := by simpa using b4
  obtain ⟨P', r1, r2⟩ := ZJ hg hn hv hvl hms j (k + 1) x1 (P ++ P1) (by omega) (fun y hy => b3 y (g0n _ hy)) e3 (by omega) (by rw [w6 P P1 hP]; exact b2) (by rw [g0f]; omega)
  refine ⟨P', ?_, r2⟩
  rw [ed, g0j, kP]
  unfold vD
  show ((wI zo zx zA (zi n ts) 12 (zh (v.take k ++ x), (ms ++ P).map mvD) (.int (k : Int)) (.int (a : Int))).bind _) = _
  rw [b1, g0a]
  exact r1
theorem kb (hg : yP ts) (hn : n <= 6) {w : List Nat} (hw : InW n w) (hwl : w.length <= 11) :
  ∃ (P : List Mv) (v : List Nat), w4 [zi n ts, zh w] = some (.lst (P.map mvD)) /\ vA ts n w P = some v /\ Lst ts n w.reverse v /\ Sh ts n v /\ Eqv (zd ts) n v w /\ v.length <= w.length /\ P.length <= 60000 := by
 obtain ⟨v, l, v1, v2, v3, v4, v5, v6⟩ := Yo hg hw
 have hv : Sh ts n v := ⟨v2, by rw [v5]; exact v4⟩
 have lv := QR n hg hn hw v1 (by omega) (by omega)
 obtain ⟨P1, s1, a1, a2, a3, a4, a5, a6⟩ := qV hg hn hw hwl w.length [] [] (g0o _) ⟨(fun i hi => by cases hi), Lth.nil⟩ (by rw [List.drop_length]; exact Eqv.rfl' _) (by simp) (by rw [List.take_length, g0t]; rfl) (by simp)
 rw [List.take_length, g0t] at a1
 have es : Eqv (zd ts) n s1 v := a3.trans v3.symm
 have ls : s1.length = v.length := by
  have := a2.2.uniq (hv.2.cong es.symm)
  exact this
 obtain ⟨P2, b1, b2, b3⟩ := ZJ hg hn (s0 := s1) hv (by omega) (ms := P1) (by omega) v.length 0 s1 [] (by omega) a2.1 es (by omega) rfl (by simp)
 refine ⟨P1 ++ P2, v, ?_, ?_, v1, hv, v3, by omega, by rw [g0f]; omega⟩
 ·have sd : kd zo zx zA ye (zi n ts) 12 (zh w, []) = some (zh s1, P1.map mvD) := by
   unfold kd
   show ((W8 [.int (((w.map fun (i : Nat) => D.int (i : Int)).length : Int) - 1), .int (-1), .int (-1)]).bind _) = _
   rw [g1l, Qa (by omega) (by omega) (by decide) (by decide), g0a]
   exact a1
  show ((kd zo zx zA ye (zi n ts) 12 (zh w, [])).bind _) = _
  rw [sd, g0a, lv, g0a]
  show ((vD (Xu zo zx zA (zi n ts) 12) (x4 (v.map fun (i : Nat) => D.int (i : Int))) (zh s1, P1.map mvD)).bind _) = _
  rw [Yt]
  have b1' := b1
  rw [List.drop_zero, List.take_zero, g0p, g0t] at b1'
  rw [b1', g0a]
 ·rw [w6 P1 P2 a5]
  exact b2
end
theorem BS : (("drop" : Str) == "turn") = false := by decide +kernel
theorem DV : (("turn" : Str) == "drop") = false := by decide +kernel
theorem DY : (("drop" : Str) == "drop") = true := by decide +kernel
theorem BR : (("turn" : Str) == "turn") = true := by decide +kernel
theorem Ft : eqF (.tup [.str "drop"]) (.tup [.str "turn"]) = some (.bl false) := by
 simp only [eqF, dep, qh, eqD, j2, BS]
 rfl
theorem Fs : eqF (.tup [.str "turn"]) (.tup [.str "turn"]) = some (.bl true) := by
 simp only [eqF, dep, qh, eqD, j2, BR]
 rfl
theorem MM : inD true (.str "drop") (.lst [.str "drop", .str "turn"]) = some (.bl false) := by
 simp only [inD, dep, qh, eqD, List.any_cons, List.any_nil, DY, DV]
 rfl
theorem ML : inD true (.str "turn") (.lst [.str "drop", .str "turn"]) = some (.bl false) := by
 simp only [inD, dep, qh, eqD, List.any_cons, List.any_nil, BS, BR]
 rfl
noncomputable def lwN : FS := ifS (Wq (blF (z5 vd (zb (vF 4) zB)))) (yY (cF .non)) nxF
theorem Ym (h w a m : Slot) : ∀ (l : List Int) (s4 : Slot), ∃ s4', y6 (zQ 4) lwN (l.map D.int) [h, w, a, m, s4] = some (.nx [h, w, a, m, s4'])
 | [], s4 => ⟨s4, rfl⟩
 | x :: l, s4 => by
  obtain ⟨s4', e⟩ := Ym h w a m l (.fr (.int x))
  refine ⟨s4', ?_⟩
  rw [g0j]
  unfold y6
  have wv := UG x
  simp only [lwN, yN, g0a, g0h, g0e, yv, xN, yd, zy, zm, zu, yh, g0c, g0b, wv, g1m, g0k, if_false, xv]
  exact e
noncomputable def lw1 : FS := ifS (orT (Wq (blF (uB (Gz "tuple") (vF 3)))) (blF (zc neF (z5 Zi (zb (vF 3) zB)) (zc yJ (cF (.int 2)) (zc uz (cF (.int 2)) (z5 GA (zb (zc eqF (yg (vF 3) noP (exP (cF (.int 1)))) (tupF (zb (cF (.str "turn")) zB))) zB))))))) (yY (cF .non)) nxF
noncomputable def lw2 : FS := ifS (blF (zc (inD true) (zc ixD (vF 3) (cF (.int 0))) (y9 (Xs (zb (cF (.str "drop")) (zb (cF (.str "turn")) zB)))))) (yY (cF .non)) nxF
noncomputable def lw3 : FS := Zj (yj (yg (vF 3) (exP (cF (.int 1))) noP)) (zQ 4) lwN
noncomputable def lw4 : FS := yq (y4 1 (z5 ym (zb (vF 0) (zb (vF 1) (zb (vF 3) zB))))) (ifS (blF (zc (isD false) (vF 1) (cF .non))) (yY (cF .non)) nxF)
theorem HN (h w a s4 : Slot) (mv : Mv) : lw1 [h, w, a, .fr (mvD mv), s4] = some (.nx [h, w, a, .fr (mvD mv), s4]) := by
 have z1 : (1 : Nat) <= sizeLine := szl (by decide)
 have z1' : 0 + 1 <= sizeLine := szl (by decide)
 have m0 : uz (.int 2) (.int 0) = some (.int (2 * 0)) := Dt (by decide) (by decide)
 have m1 : uz (.int 2) (.int 1) = some (.int (2 * 1)) := Dt (by decide) (by decide)
 cases mv with
 | drop p =>
  have cd : qS [D.str "drop", D.int p] none (some 1) = [D.str "drop"] := rfl
  simp [lw1, mvD, Wc, tyN, cd, Ft, z1, m0]
 | turn p i j =>
  have cd : qS [D.str "turn", D.int p, D.int i, D.int j] none (some 1) = [D.str "turn"] := rfl
  simp [lw1, mvD, Wc, tyN, cd, Fs, z1, m1]
theorem HM (h w a s4 : Slot) (mv : Mv) : lw2 [h, w, a, .fr (mvD mv), s4] = some (.nx [h, w, a, .fr (mvD mv), s4]) := by
 have z2 : (2 : Nat) <= sizeLine := szl (by decide)
 cases mv with
 | drop p => simp [lw2, mvD, ix0, MM, z2]
 | turn p i j => simp [lw2, mvD, ix0, ML, z2]
theorem HL (h w a s4 : Slot) (mv : Mv) : ∃ s4', lw3 [h, w, a, .fr (mvD mv), s4] = some (.nx [h, w, a, .fr (mvD mv), s4']) := by
 cases mv with
 | drop p =>
  have cd : qS [D.str "drop", D.int p] (some 1) none = [p].map D.int := rfl
  obtain ⟨s4', e⟩ := Ym h w a (.fr (mvD (.drop p))) [p] s4
  refine ⟨s4', ?_⟩
  unfold lw3
  rw [wg]
  have : yj (yg (vF 3) (exP (cF (.int 1))) noP) [h, w, a, .fr (mvD (.drop p)), s4] = some ([p].map D.int) := by
   simp only [yU, qA, yh, U4, yR, JY, g0c, g0b, g0a, mvD, cd]
   rfl
  rw [this, g0a]
  exact e
 | turn p i j =>
  have cd : qS [D.str "turn", D.int p, D.int i, D.int j] (some 1) none = [p, i, j].map D.int := rfl
  obtain ⟨s4', e⟩ := Ym h w a (.fr (mvD (.turn p i j))) [p, i, j] s4
  refine ⟨s4', ?_⟩
  unfold lw3
  rw [wg]
  have : yj (yg (vF 3) (exP (cF (.int 1))) noP) [h, w, a, .fr (mvD (.turn p i j)), s4] = some ([p, i, j].map D.int) := by
   simp only [yU, qA, yh, U4, yR, JY, g0c, g0b, g0a, mvD, cd]
   rfl
  rw [this, g0a]
  exact e
noncomputable def lwB : FS := yq lw1 (yq lw2 (yq lw3 lw4))
theorem QJ (n : Nat) {ts : List T3} (hg : yP ts) (a2 : Slot) : ∀ (ms : List Mv) (w : List Nat) (s3 s4 : Slot), InW n w -> w.length <= 60 -> ∃ o, y6 (zQ 3) lwB (ms.map mvD) [.fr (zi n ts), .fr (zh w), a2, s3, s4] = some o ∧
  JE ((some o).bind fun o => match o with | .nx ρ' => yY (vF 1) ρ' | o => some o) = some (yZ (vA ts n w ms))
 | [], w, s3, s4, hw, hl => ⟨_, rfl, rfl⟩
 | mv :: ms, w, s3, s4, hw, hl => by
  have mval := ZI n hg hl mv
  obtain ⟨s4', e3⟩ := HL (.fr (zi n ts)) (.fr (zh w)) a2 s4 mv
  have hb : lwB [.fr (zi n ts), .fr (zh w), a2, .fr (mvD mv), s4] = lw4 [.fr (zi n ts), .fr (zh w), a2, .fr (mvD mv), s4'] := by
   unfold lwB
   rw [zS, HN, g0a]
   show yq lw2 (yq lw3 lw4) _ = _
   rw [zS, HM, g0a]
   show yq lw3 lw4 _ = _
   rw [zS, e3, g0a]
  rw [g0j]
  unfold y6 vA
  rw [yN, g0a]
  show ∃ o, ((lwB [.fr (zi n ts), .fr (zh w), a2, .fr (mvD mv), s4]).bind _ = some o) /\ _
  rw [hb]
  cases c : X6 ts n w mv with
  | none =>
   rw [c] at mval
   have nn : isD false .non .non = some (.bl true) := rfl
   refine ⟨.rt .non, ?_, rfl⟩
   simp only [lw4, zS, z9, zy, zm, zu, yh, yR, g0c, g0b, g0a, g0h, g0e, mval, yZ, yv, yd, zl, nn, if_true, zT]
  | some w' =>
   rw [c] at mval
   obtain ⟨h1, h2⟩ := QF hw c
   obtain ⟨o, e1, e2⟩ := QJ n hg a2 ms w' (.fr (mvD mv)) s4' h1 (by omega)
   have nn : isD false (zh w') .non = some (.bl false) := rfl
   refine ⟨o, ?_, e2⟩
   simp only [lw4, zS, z9, zy, zm, zu, yh, yR, g0c, g0b, g0a, g0h, g0e, mval, yZ, yv, yd, zl, nn, g0k, if_false, xv]
   exact e1
theorem kE (n : Nat) {ts : List T3} (hg : yP ts) {w : List Nat} (hw : InW n w) (hl : w.length <= 60) (ms : List Mv) : xp [zi n ts, zh w, .lst (ms.map mvD)] = some (yZ (vA ts n w ms)) := by
 obtain ⟨o, e1, e2⟩ := QJ n hg (.fr (.lst (ms.map mvD))) ms w .no .no hw hl
 have ty : Gz "list" (.lst (ms.map mvD)) = some (.bl true) := rfl
 have sq : ke (.lst (ms.map mvD)) = some (ms.map mvD) := rfl
 unfold xp ju
 simp only [zU, zt, g0j, g0q, g0d, g0g, Nat.reduceAdd, Nat.reduceSub, g0i, g0r, g0p]
 rw [zS]
 simp only [yv, xN, yd, Ya, yh, g0c, g0b, g0a, ty, g1m, g0k, if_false, xv]
 rw [zS, wg]
 simp only [yU, yh, g0c, g0b, g0a, sq]
 unfold lwB lw1 lw2 lw3 lw4 lwN at e1
 rw [e1]
 exact e2
theorem xS {F G : FS} {ρ ρ' : Rho} (h : F ρ = some (.nx ρ')) : yq F G ρ = G ρ' := by rw [zS, h]; rfl
theorem JP {ts : List T3} {n : Nat} {w w' : List Nat} {p i j : Int} (h : X6 ts n w (.turn p i j) = some w') : w'.length = w.length := by
 change ka ts n w p i j = some w' at h
 unfold ka at h
 split at h
 ·rename_i c
  cases h
  obtain ⟨c1, c2, _, _, _, _, c7⟩ := c
  have := congrArg g2u c7
  rw [xj, g1c, g1k] at this
  rw [g0f, g0f, xj, g1c, g1k]
  omega
 ·cases h
theorem Uj (x : Option (List Nat)) : isD true (yZ x) .non = some (.bl x.isSome) := by cases x <;> rfl
noncomputable def BC : FS := (yq (y4 8 (cF .non)) (yq (ifS (blF (zc neF (vF 7) (zc ixD (vF 3) (vF 6)))) (y4 8 (z5 ym (zb (vF 1) (zb (vF 3) (zb (tupF (zb (cF (.str "turn")) (zb (vF 6) (zb (zc ixD (vF 3) (vF 6)) (zb (vF 7) zB))))) zB))))) nxF) (ifS (WI (blF (zc (isD true) (vF 8) (cF .non))) (blF (zc eqF (zc vZ (zc wt (vF 5) (cF (.int 512))) (cF (.int 3))) (cF (.int 2))))) (y4 3 (vF 8)) nxF)))
theorem QY (n : Nat) {ts : List T3} (hg : yP ts) (a0 a2 a4 s8 s9 : Slot) (z : Int) {i : Nat} {u : List Nat} (hu : InW n u) (hl : u.length <= 60) {k : Nat} (hk : k < u.length) :
  ∃ (u' : List Nat) (s8' : Slot), InW n u' /\ u'.length = u.length /\ BC [a0, .fr (zi n ts), a2, .fr (zh u), a4, .fr (.int z), .fr (.int (k : Int)), .fr (.int (i : Int)), s8, s9] = some (.nx [a0, .fr (zi n ts), a2, .fr (zh u'), a4, .fr (.int z), .fr (.int (k : Int)), .fr (.int (i : Int)), s8', s9]) := by
 have hix : ixD (zh u) (.int (k : Int)) = some (.int (u[k] : Int)) := ZU (g0x hk)
 have fd : wt (.int z) (.int 512) = some (.int (z / 512)) := xR (by decide) (by decide)
 have md := yA (i := z / 512) (show (0 : Int) < 3 by decide)
 have z4 : 4 <= sizeLine := szl (by decide)
 unfold BC
 rw [xS (ρ' := [a0, .fr (zi n ts), a2, .fr (zh u), a4, .fr (.int z), .fr (.int (k : Int)), .fr (.int (i : Int)), .fr .non, s9]) (by simp only [z9, yR, g0a, g0h, g0e])]
 by_cases c : (i : Int) = (u[k] : Int)
 ·rw [xS (ρ' := [a0, .fr (zi n ts), a2, .fr (zh u), a4, .fr (.int z), .fr (.int (k : Int)), .fr (.int (i : Int)), .fr .non, s9]) (by simp only [yv, yd, zl, yh, g0c, g0b, g0a, hix, JZ, c, decide_true, g1m, g0k, if_false, xv])]
  refine ⟨u, .fr .non, hu, rfl, ?_⟩
  have nn : isD true .non .non = some (.bl false) := rfl
  simp only [yv, W4, yd, zl, yh, yR, g0c, g0b, g0a, nn, g0k, if_false, xv]
 ·have mv := ZI n hg hl (.turn (k : Int) (u[k] : Int) (i : Int))
  have mv : ym [zi n ts, zh u, .tup [.str "turn", .int (k : Int), .int (u[k] : Int), .int (i : Int)]] = _ := mv
  rw [xS (ρ' := [a0, .fr (zi n ts), a2, .fr (zh u), a4, .fr (.int z), .fr (.int (k : Int)), .fr (.int (i : Int)), .fr (yZ (X6 ts n u (.turn (k : Int) (u[k] : Int) (i : Int)))), s9]) (by simp only [yv, yd, zl, yh, yR, g0c, g0b, g0a, hix, JZ, c, decide_false, g1n, if_true, z9, zy, zm, zu, wH, g0d, g0g, Nat.reduceAdd, z4, mv, g0h, g0e])]
  have nn := Uj (X6 ts n u (.turn (k : Int) (u[k] : Int) (i : Int)))
  cases e : X6 ts n u (.turn (k : Int) (u[k] : Int) (i : Int)) with
  | none =>
   rw [e] at nn
   refine ⟨u, .fr (yZ none), hu, rfl, ?_⟩
   simp only [yv, W4, yd, zl, yh, yR, g0c, g0b, g0a, nn, Option.isSome_none, g0k, if_false, xv]
  | some u' =>
   rw [e] at nn
   obtain ⟨q1, q2⟩ := QF hu e
   by_cases c2 : z / 512 % 3 = 2
   ·refine ⟨u', .fr (yZ (some u')), q1, JP e, ?_⟩
    simp only [yv, W4, yd, zl, yh, yR, g0c, g0b, g0a, nn, Option.isSome_some, if_true, fd, md, wj, c2, decide_true, z9, g0h, g0e]
    rfl
   ·refine ⟨u, .fr (yZ (some u')), hu, rfl, ?_⟩
    simp only [yv, W4, yd, zl, yh, yR, g0c, g0b, g0a, nn, Option.isSome_some, if_true, fd, md, wj, c2, decide_false, g0k, if_false, xv]
theorem Xv (n : Nat) {ts : List T3} (hg : yP ts) (a0 a2 a4 s9 : Slot) (z : Int) {i L : Nat} (hL : L <= 60) : ∀ (m k : Nat) (u : List Nat) (s6 s8 : Slot), k + m = L -> InW n u -> u.length = L →
  ∃ (u' : List Nat) (s6' s8' : Slot), InW n u' /\ u'.length = L /\ y6 (zQ 6) BC (yk (k : Int) (L : Int)) [a0, .fr (zi n ts), a2, .fr (zh u), a4, .fr (.int z), s6, .fr (.int (i : Int)), s8, s9] = some (.nx [a0, .fr (zi n ts), a2, .fr (zh u'), a4, .fr (.int z), s6', .fr (.int (i : Int)), s8', s9])
 | 0, k, u, s6, s8, hk, hu, hl => by
  rw [wZ (by omega)]
  exact ⟨u, s6, s8, hu, hl, rfl⟩
 | m + 1, k, u, s6, s8, hk, hu, hl => by
  obtain ⟨u1, s81, q1, q2, q3⟩ := QY n hg a0 a2 a4 s8 s9 z (i := i) hu (by omega) (k := k) (by omega)
  obtain ⟨u', s6', s8', r1, r2, r3⟩ := Xv n hg a0 a2 a4 s9 z (i := i) hL m (k + 1) u1 (.fr (.int (k : Int))) s81 (by omega) q1 (by omega)
  refine ⟨u', s6', s8', r1, r2, ?_⟩
  rw [xV (by omega)]
  unfold y6
  rw [yN, g0a]
  simp only [g0h, g0e]
  rw [q3]
  exact r3
noncomputable def Dr : FS := (yq (y4 5 (z5 yX (zb (z5 zI (zb (vF 0) (zb (zc yJ (cF (.int 12)) (vF 4)) zB))) (zb (zc yJ (cF (.int 30)) (vF 4)) zB)))) (yq (y4 6 (zc vZ (vF 5) (zc yJ (z5 Zi (zb (vF 3) zB)) (cF (.int 1))))) (yq (y4 7 (zc vZ (zc wt (vF 5) (cF (.int 64))) (zc ixD (vF 1) (cF (.int 0))))) (yq (ifS (blF (zc eqF (zc vZ (zc wt (vF 5) (cF (.int 512))) (cF (.int 3))) (cF (.int 0)))) (y4 3 (zc yJ (zc yJ (yg (vF 3) noP (exP (vF 6))) (tupF (zb (vF 7) (zb (vF 7) zB)))) (yg (vF 3) (exP (vF 6)) noP))) nxF) (yq (ifS (blF (zc eqF (zc vZ (zc wt (vF 5) (cF (.int 512))) (cF (.int 3))) (cF (.int 1)))) (y4 3 (zc yJ (zc yJ (yg (vF 3) noP (exP (vF 6))) (tupF (zb (vF 7) zB))) (yg (vF 3) (exP (zc yJ (vF 6) (cF (.int 1)))) noP))) nxF) (Zj (W6 (zb (z5 Zi (zb (vF 3) zB)) zB)) (zQ 6) BC))))))
theorem Qm (ns : List Int) (hl : ns.length <= 63) (n : Nat) {ts : List T3} (hg : yP ts) (h1 : 1 <= n) (a2 s5 s6 s7 s8 s9 : Slot) {k : Nat} (hk : k <= 1) {u : List Nat} (hu : InW n u) (hul : u.length <= 40) :
  ∃ (u' : List Nat) (s5' s6' s7' s8' : Slot), InW n u' /\ u'.length <= u.length + 2 /\ Dr [.fr (.lst (ns.map D.int)), .fr (zi n ts), a2, .fr (zh u), .fr (.int (k : Int)), s5, s6, s7, s8, s9] = some (.nx [.fr (.lst (ns.map D.int)), .fr (zi n ts), a2, .fr (zh u'), .fr (.int (k : Int)), s5', s6', s7', s8', s9]) := by
 have cv := uY ns (12 + k) hl
 have cv : zI [.lst (ns.map D.int), .int (12 + (k : Int))] = some (.int (vG ns (12 + k))) := by
  have : ((12 + k : Nat) : Int) = 12 + (k : Int) := by omega
  rw [<- this]; exact cv
 obtain ⟨z, z0, _, mx⟩ := kC (vG ns (12 + k)) (30 + k) (by omega)
 have mx : yX [.int (vG ns (12 + k)), .int (30 + (k : Int))] = some (.int z) := by
  have : ((30 + k : Nat) : Int) = 30 + (k : Int) := by omega
  rw [<- this]; exact mx
 have hlu : Zi [zh u] = some (.int (u.length : Int)) := by simp [zh]
 have m6 := yA (i := z) (j := (u.length : Int) + 1) (by omega)
 have en : ixD (zi n ts) (.int 0) = some (.int n) := by unfold zi; exact ix0
 have f64 : wt (.int z) (.int 64) = some (.int (z / 64)) := xR (by decide) (by decide)
 have f512 : wt (.int z) (.int 512) = some (.int (z / 512)) := xR (by decide) (by decide)
 have m3 := yA (i := z / 512) (show (0 : Int) < 3 by decide)
 have m7 := yA (i := z / 64) (j := (n : Int)) (by omega)
 obtain ⟨a, ea, hal⟩ : ∃ a : Nat, z % ((u.length : Int) + 1) = (a : Int) /\ a <= u.length := ⟨(z % ((u.length : Int) + 1)).toNat, by
  have := Int.emod_nonneg z (show (u.length : Int) + 1 ≠ 0 by omega); omega, by
  have := Int.emod_lt_of_pos z (show 0 < (u.length : Int) + 1 by omega); omega⟩
 obtain ⟨i, ei, hil⟩ : ∃ i : Nat, z / 64 % (n : Int) = (i : Int) /\ i < n := ⟨(z / 64 % (n : Int)).toNat, by
  have := Int.emod_nonneg (z / 64) (show (n : Int) ≠ 0 by omega); omega, by
  have := Int.emod_lt_of_pos (z / 64) (show 0 < (n : Int) by omega); omega⟩
 have z2 : 2 <= sizeLine := szl (by decide)
 have z1 : 1 <= sizeLine := szl (by decide)
 have key : ∀ u1 : List Nat, InW n u1 -> u1.length <= u.length + 2 -> ∀ s6 : Slot, ∃ (u' : List Nat) (s6' s8' : Slot), InW n u' /\ u'.length <= u.length + 2 /\ Zj (W6 (zb (z5 Zi (zb (vF 3) zB)) zB)) (zQ 6) BC [.fr (.lst (ns.map D.int)), .fr (zi n ts), a2, .fr (zh u1), .fr (.int (k : Int)), .fr (.int z), s6, .fr (.int (i : Int)), s8, s9] = some (.nx [.fr (.lst (ns.map D.int)), .fr (zi n ts), a2, .fr (zh u'), .fr (.int (k : Int)), .fr (.int z), s6', .fr (.int (i : Int)), s8', s9]) := by
  intro u1 hu1 hl1 s6
  obtain ⟨u', s6', s8', r1, r2, r3⟩ := Xv n hg (.fr (.lst (ns.map D.int))) a2 (.fr (.int (k : Int))) s9 z (i := i) (L := u1.length) (by omega) u1.length 0 u1 s6 s8 (by omega) hu1 rfl
  refine ⟨u', s6', s8', r1, by omega, ?_⟩
  have hlu1 : Zi [zh u1] = some (.int (u1.length : Int)) := by simp [zh]
  have ra : vT [.int (u1.length : Int)] = some (yk ((0 : Nat) : Int) (u1.length : Int)) := xO (by omega) (by omega)
  rw [wg]
  simp only [u6, zy, zm, zu, yh, g0c, g0b, g0a, hlu1, ra]
  exact r3
 unfold Dr
 rw [xS (ρ' := [.fr (.lst (ns.map D.int)), .fr (zi n ts), a2, .fr (zh u), .fr (.int (k : Int)), .fr (.int z), s6, s7, s8, s9]) (by simp only [z9, zy, zm, zu, zl, yh, yR, g0c, g0b, g0a, ud, cv, mx, g0h, g0e]),
  xS (ρ' := [.fr (.lst (ns.map D.int)), .fr (zi n ts), a2, .fr (zh u), .fr (.int (k : Int)), .fr (.int z), .fr (.int (a : Int)), s7, s8, s9]) (by simp only [z9, zy, zm, zu, zl, yh, yR, g0c, g0b, g0a, hlu, ud, m6, ea, g0h, g0e]),
  xS (ρ' := [.fr (.lst (ns.map D.int)), .fr (zi n ts), a2, .fr (zh u), .fr (.int (k : Int)), .fr (.int z), .fr (.int (a : Int)), .fr (.int (i : Int)), s8, s9]) (by simp only [z9, zl, yh, yR, g0c, g0b, g0a, en, f64, m7, ei, g0h, g0e])]
 have ht : InW n (u.take a) := fun x hx => hu x (g2j hx)
 have tk : ∀ (s4 s5 s7 s8 s9 : Slot), yg (vF 3) noP (exP (vF 6)) [.fr (.lst (ns.map D.int)), .fr (zi n ts), a2, .fr (zh u), s4, s5, .fr (.int (a : Int)), s7, s8, s9] = some (zh (u.take a)) := fun _ _ _ _ _ => qi rfl rfl
 by_cases c0 : z / 512 % 3 = 0
 ·have n1 : ¬ (z / 512 % 3 = 1) := by omega
  have dp : ∀ (s4 s5 s7 s8 s9 : Slot), yg (vF 3) (exP (vF 6)) noP [.fr (.lst (ns.map D.int)), .fr (zi n ts), a2, .fr (zh u), s4, s5, .fr (.int (a : Int)), s7, s8, s9] = some (zh (u.drop a)) := fun _ _ _ _ _ => qW rfl rfl
  have p2 : D.tup [.int (i : Int), .int (i : Int)] = zh [i, i] := rfl
  have a1 := xu (u.take a) [i, i] (by rw [g1c]; simp; omega)
  have a2' := xu (u.take a ++ [i, i]) (u.drop a) (by rw [g0f, g1c, g1k]; simp; omega)
  rw [xS (ρ' := [.fr (.lst (ns.map D.int)), .fr (zi n ts), a2, .fr (zh (u.take a ++ [i, i] ++ u.drop a)), .fr (.int (k : Int)), .fr (.int z), .fr (.int (a : Int)), .fr (.int (i : Int)), s8, s9]) (by
    rw [yv]
    simp only [yd, zl, yh, yR, g0c, g0b, g0a, f512, m3, wj, c0, decide_true, if_true, z9, tk, dp, wH, zm, zu, g0d, g0g, Nat.reduceAdd, z2, p2, a1, a2', g0h, g0e]),
   xS (ρ' := [.fr (.lst (ns.map D.int)), .fr (zi n ts), a2, .fr (zh (u.take a ++ [i, i] ++ u.drop a)), .fr (.int (k : Int)), .fr (.int z), .fr (.int (a : Int)), .fr (.int (i : Int)), s8, s9]) (by
    rw [yv]
    simp only [yd, zl, yh, yR, g0c, g0b, g0a, f512, m3, wj, n1, decide_false, g0k, if_false, xv])]
  obtain ⟨u', s6', s8', r1, r2, r3⟩ := key (u.take a ++ [i, i] ++ u.drop a) ((ht.app (fun x hx => by simp at hx; omega)).app fun x hx => hu x (g2i hx)) (by simp; omega) (.fr (.int (a : Int)))
  exact ⟨u', _, _, _, _, r1, r2, r3⟩
 ·by_cases c1 : z / 512 % 3 = 1
  ·have dp : ∀ (s4 s5 s7 s8 s9 : Slot), yg (vF 3) (exP (zc yJ (vF 6) (cF (.int 1)))) noP [.fr (.lst (ns.map D.int)), .fr (zi n ts), a2, .fr (zh u), s4, s5, .fr (.int (a : Int)), s7, s8, s9] = some (zh (u.drop (a + 1))) := fun _ _ _ _ _ => qW rfl (by simp only [zl, yh, yR, g0c, g0b, g0a, ud]; rfl)
   have p2 : D.tup [.int (i : Int)] = zh [i] := rfl
   have a1 := xu (u.take a) [i] (by rw [g1c]; simp; omega)
   have a2' := xu (u.take a ++ [i]) (u.drop (a + 1)) (by rw [g0f, g1c, g1k]; simp; omega)
   rw [xS (ρ' := [.fr (.lst (ns.map D.int)), .fr (zi n ts), a2, .fr (zh u), .fr (.int (k : Int)), .fr (.int z), .fr (.int (a : Int)), .fr (.int (i : Int)), s8, s9]) (by
     rw [yv]
     simp only [yd, zl, yh, yR, g0c, g0b, g0a, f512, m3, wj, c0, decide_false, g0k, if_false, xv]),
    xS (ρ' := [.fr (.lst (ns.map D.int)), .fr (zi n ts), a2, .fr (zh (u.take a ++ [i] ++ u.drop (a + 1))), .fr (.int (k : Int)), .fr (.int z), .fr (.int (a : Int)), .fr (.int (i : Int)), s8, s9]) (by
     rw [yv]
     simp only [yd, zl, yh, yR, g0c, g0b, g0a, f512, m3, wj, c1, decide_true, if_true, z9, tk, dp, wH, zm, zu, g0d, g0g, Nat.reduceAdd, z1, p2, a1, a2', g0h, g0e])]
   obtain ⟨u', s6', s8', r1, r2, r3⟩ := key (u.take a ++ [i] ++ u.drop (a + 1)) ((ht.app (fun x hx => by simp at hx; omega)).app fun x hx => hu x (g2i hx)) (by simp; omega) (.fr (.int (a : Int)))
   exact ⟨u', _, _, _, _, r1, r2, r3⟩
  ·rw [xS (ρ' := [.fr (.lst (ns.map D.int)), .fr (zi n ts), a2, .fr (zh u), .fr (.int (k : Int)), .fr (.int z), .fr (.int (a : Int)), .fr (.int (i : Int)), s8, s9]) (by
     rw [yv]
     simp only [yd, zl, yh, yR, g0c, g0b, g0a, f512, m3, wj, c0, decide_false, g0k, if_false, xv]),
    xS (ρ' := [.fr (.lst (ns.map D.int)), .fr (zi n ts), a2, .fr (zh u), .fr (.int (k : Int)), .fr (.int z), .fr (.int (a : Int)), .fr (.int (i : Int)), s8, s9]) (by
     rw [yv]
     simp only [yd, zl, yh, yR, g0c, g0b, g0a, f512, m3, wj, c1, decide_false, g0k, if_false, xv])]
   obtain ⟨u', s6', s8', r1, r2, r3⟩ := key u hu (by omega) (.fr (.int (a : Int)))
   exact ⟨u', _, _, _, _, r1, r2, r3⟩
theorem Xh (ns : List Int) (hl : ns.length <= 63) (n : Nat) {ts : List T3} (hg : yP ts) (h1 : 1 <= n) (a2 s9 : Slot) {top : Nat} (ht : top <= 2) : ∀ (m k : Nat) (u : List Nat) (s4 s5 s6 s7 s8 : Slot), k + m = top -> InW n u -> u.length <= 6 + 2 * k →
  ∃ (u' : List Nat) (s4' s5' s6' s7' s8' : Slot), InW n u' /\ u'.length <= 6 + 2 * top /\ y6 (zQ 4) Dr (yk (k : Int) (top : Int)) [.fr (.lst (ns.map D.int)), .fr (zi n ts), a2, .fr (zh u), s4, s5, s6, s7, s8, s9] = some (.nx [.fr (.lst (ns.map D.int)), .fr (zi n ts), a2, .fr (zh u'), s4', s5', s6', s7', s8', s9])
 | 0, k, u, s4, s5, s6, s7, s8, hk, hu, hul => by
  rw [wZ (by omega)]
  exact ⟨u, s4, s5, s6, s7, s8, hu, by omega, rfl⟩
 | m + 1, k, u, s4, s5, s6, s7, s8, hk, hu, hul => by
  obtain ⟨u1, t5, t6, t7, t8, q1, q2, q3⟩ := Qm ns hl n hg h1 a2 s5 s6 s7 s8 s9 (k := k) (by omega) hu (by omega)
  obtain ⟨u', s4', s5', s6', s7', s8', r1, r2, r3⟩ := Xh ns hl n hg h1 a2 s9 ht m (k + 1) u1 (.fr (.int (k : Int))) t5 t6 t7 t8 (by omega) q1 (by omega)
  refine ⟨u', s4', s5', s6', s7', s8', r1, r2, ?_⟩
  rw [xV (by omega)]
  unfold y6
  rw [yN, g0a]
  simp only [g0h, g0e]
  rw [q3]
  exact r3
theorem law_true (ns : List Int) (hl : ns.length <= 63) : g_law [.lst (ns.map D.int)] = some (.bl true) := by
 obtain ⟨n, ts, h1, h4, ht, hlen, hv⟩ := Q0 ns hl 4 (by decide) (by decide)
 have hg := ht.good
 have hv : ve [.lst (ns.map D.int), .int 4] = some (zi n ts) := hv
 obtain ⟨w, hwl, hw, wv⟩ := JI ns hl n ts h1 5 6 (by omega)
 have wv : vv [.lst (ns.map D.int), zi n ts, .int 5, .int 6] = some (zh w) := wv
 have hw : InW n w := hw
 have c4 : zI [.lst (ns.map D.int), .int 4] = some (.int (vG ns 4)) := uY ns 4 hl
 have m2 := yA (i := vG ns 4) (show (0 : Int) < 2 by decide)
 obtain ⟨top, et, htop⟩ : ∃ top : Nat, 1 + vG ns 4 % 2 = (top : Int) /\ top <= 2 := ⟨(1 + vG ns 4 % 2).toNat, by omega, by omega⟩
 have ra : vT [.int (top : Int)] = some (yk ((0 : Nat) : Int) (top : Int)) := xO (by omega) (by omega)
 obtain ⟨u, s4, s5, s6, s7, s8, hu, hul, e⟩ := Xh ns hl n hg h1 (.fr (zh w)) .no htop top 0 w .no .no .no .no .no (by omega) hw (by omega)
 obtain ⟨P1, v1, a1, a2, a3, a4, a5, a6, _⟩ := kb hg (show n <= 6 by omega) hw (by omega)
 obtain ⟨P2, v2, b1, b2, b3, b4, b5, b6, _⟩ := kb hg (show n <= 6 by omega) hu (by omega)
 have lw1 := kE n hg hw (by omega) P1
 have lw2 := kE n hg hu (by omega) P2
 rw [a2] at lw1
 rw [b2] at lw2
 have lw1 : xp [zi n ts, zh w, .lst (P1.map mvD)] = some (zh v1) := lw1
 have lw2 : xp [zi n ts, zh u, .lst (P2.map mvD)] = some (zh v2) := lw2
 have s1 := W1 n hg (show n <= 6 by omega) hw hu
 have s2 := W1 n hg (show n <= 6 by omega) hu hw
 rw [Jk] at s2
 have key : (UC ts n w u).isNone = decide (v1 = v2) := by
  by_cases c : UC ts n w u = none
  ·have ev := (XH hw hu).mp c
   have : v1 = v2 := a3.uniq (b3.cong (Eqv.rev (zW ts) hu hw ev.symm))
   simp [c, this]
  ·have : ¬ (v1 = v2) := fun z => by
    subst z
    exact c ((XH hw hu).mpr (a5.symm.trans b5))
   cases d : UC ts n w u with
   | none => exact absurd d c
   | some x => simp [this]
 rw [key] at s1 s2
 have z2 : 2 <= sizeLine := szl (by decide)
 have n1 : isD false (zh v1) .non = some (.bl false) := rfl
 have n2 : isD false (zh v2) .non = some (.bl false) := rfl
 have j0 : ixD (.lst [zh v1, zh v2]) (.int 0) = some (zh v1) := qr (j := 0) rfl
 have j1 : ixD (.lst [zh v1, zh v2]) (.int 1) = some (zh v2) := qr (j := 1) rfl
 have ew := Ba v1 v2
 have eb : ∀ b : Bool, eqF (.bl b) (.bl b) = some (.bl true) := fun b => by cases b <;> rfl
 have cp : ∀ (s4 s5 s6 s7 s8 s9 : Slot), u4 1 [1] (yj (y9 (Xs (zb (vF 2) (zb (vF 3) zB))))) (zQ 0) ttF (z5 xp (zb (vF 1) (zb (vF 0) (zb (z5 w4 (zb (vF 1) (zb (vF 0) zB))) zB)))) [.fr (.lst (ns.map D.int)), .fr (zi n ts), .fr (zh w), .fr (zh u), s4, s5, s6, s7, s8, s9] = some [zh v1, zh v2] := fun s4 s5 s6 s7 s8 s9 => by
  have si : yj (y9 (Xs (zb (vF 2) (zb (vF 3) zB)))) [.fr (.lst (ns.map D.int)), .fr (zi n ts), .fr (zh w), .fr (zh u), s4, s5, s6, s7, s8, s9] = some [zh w, zh u] := by
   simp only [yU, wJ, Y9, zm, zu, yh, g0c, g0b, g0a, g0d, g0g, Nat.reduceAdd, z2, if_true, g1w]
   rfl
  rw [ui si z2]
  have cs : uh 1 [1] [.fr (.lst (ns.map D.int)), .fr (zi n ts), .fr (zh w), .fr (zh u), s4, s5, s6, s7, s8, s9] = [.no, .fr (zi n ts)] := rfl
  rw [cs]
  unfold xh
  simp only [yN, g0e, g0a, UZ, if_true, zy, zm, zu, yh, g0c, g0b, a1, lw1]
  unfold xh
  simp only [yN, g0e, g0a, UZ, if_true, zy, zm, zu, yh, g0c, g0b, b1, lw2]
  unfold xh
  rfl
 unfold Dr BC at e
 unfold g_law Bw
 simp only [zU, zt, g0j, g0q, g0d, g0g, Nat.reduceAdd, Nat.reduceSub, g0i, g0r, g0p]
 rw [xS (ρ' := [.fr (.lst (ns.map D.int)), .fr (zi n ts), .no, .no, .no, .no, .no, .no, .no, .no]) (by simp only [z9, zy, zm, zu, yh, yR, g0c, g0b, g0a, hv, g0h, g0e]),
  xS (ρ' := [.fr (.lst (ns.map D.int)), .fr (zi n ts), .fr (zh w), .no, .no, .no, .no, .no, .no, .no]) (by simp only [z9, zy, zm, zu, yh, yR, g0c, g0b, g0a, wv, g0h, g0e]),
  xS (ρ' := [.fr (.lst (ns.map D.int)), .fr (zi n ts), .fr (zh w), .fr (zh w), .no, .no, .no, .no, .no, .no]) (by simp only [z9, yh, g0c, g0b, g0a, g0h, g0e]),
  xS (ρ' := [.fr (.lst (ns.map D.int)), .fr (zi n ts), .fr (zh w), .fr (zh u), s4, s5, s6, s7, s8, .no]) (by
   rw [wg]
   simp only [u6, zm, zu, zl, zy, yh, yR, g0c, g0b, g0a, c4, m2, ud, et, ra]
   exact e),
  xS (ρ' := [.fr (.lst (ns.map D.int)), .fr (zi n ts), .fr (zh w), .fr (zh u), s4, s5, s6, s7, s8, .fr (.lst [zh v1, zh v2])]) (by
   rw [z9, wJ, cp]
   simp only [g1w, g0a, g0h, g0e]),
  xS (ρ' := [.fr (.lst (ns.map D.int)), .fr (zi n ts), .fr (zh w), .fr (zh u), s4, s5, s6, s7, s8, .fr (.lst [zh v1, zh v2])]) (by simp only [yv, vk, yd, zl, yh, yR, g0c, g0b, g0a, j0, j1, n1, n2, g0k, if_false, xv])]
 simp only [zT, U6, zl, zy, zm, zu, yh, yR, g0c, g0b, g0a, s1, s2, j0, j1, ew, eb, if_true, z8]
end Pk53
def PySem.W.Fast.tw10150592765159493531 := 0
def PySem.W.Fast.tw3905927949613195192 := 0
def PySem.W.Fast.tw4185448330433603034 := 0
def PySem.W.Fast.tw7812118626225745431 := 0
def PySem.W.Fast.tw2149529753108222943 := 0
def PySem.W.Fast.tw4363313728100154305 := 0
def PySem.W.Fast.tw540371050401951355 := 0
def PySem.W.Fast.tw2631805086763363140 := 0
def PySem.W.Fast.tw5207807216576053980 := 0
def PySem.W.Fast.tw1485049666503058547 := 0
def PySem.W.Fast.tw15859766204956945087 := 0
def PySem.W.Fast.tw15617318942194659393 := 0
def PySem.W.Fast.tw7399500458432651410 := 0
def PySem.W.Fast.tw4450787816924192686 := 0
def PySem.W.Fast.tw8252889529323164796 := 0
def PySem.W.Fast.tw17745390743534539629 := 0
def PySem.W.Fast.tw10527619226750307105 := 0
def PySem.W.Fast.tw7876003371122753020 := 0
def PySem.W.Fast.tw17689004420386727622 := 0
def PySem.W.Fast.tw16755894098655237917 := 0
def PySem.W.Fast.tw5512904264480752025 := 0
def PySem.W.Fast.tw8321211995166607581 := 0
def PySem.W.Fast.tw5185631199502190082 := 0
def PySem.W.Fast.tw14381450302357555572 := 0
def PySem.W.Fast.tw18161306872644414080 := 0
def PySem.W.Fast.tw5775391961831551360 := 0
def PySem.W.Fast.tw8557642947790547950 := 0
def PySem.W.Fast.tw1920532188790734389 := 0
def PySem.W.Fast.tw3113247449989456877 := 0
def PySem.W.Fast.tw5878548130528011420 := 0
def PySem.W.Fast.tw6114570434154478336 := 0
def PySem.W.Fast.tw1703017887650295568 := 0
def PySem.W.Fast.tw312056359021907005 := 0
def PySem.W.Fast.tw6450130534003994237 := 0
def PySem.W.Fast.tw6226189105478113199 := 0
def PySem.W.Fast.tw14935527381621835033 := 0
def PySem.W.Fast.tw3733991054452968989 := 0
def PySem.W.Fast.tw2511422376575577823 := 0
def PySem.W.Fast.tw17282813690388181162 := 0
def PySem.W.Fast.tw17212210948449736096 := 0
def PySem.W.Fast.tw10777423393366297966 := 0
def PySem.W.Fast.tw17982170883308740973 := 0
def PySem.W.Fast.tw1258153735128109325 := 0
def PySem.W.Fast.tw10829881623305992633 := 0
def PySem.W.Fast.tw11738558284597513769 := 0
def PySem.W.Fast.tw7050588168356548233 := 0
def PySem.W.Fast.tw7241525923827484428 := 0
def PySem.W.Fast.tw7092979442571041978 := 0
def PySem.W.Fast.tw3635565678027146804 := 0
def PySem.W.Fast.tw18085820061378650214 := 0
def PySem.W.Fast.tw3889954402456602849 := 0
def PySem.W.Fast.tw10975028518667854133 := 0
def PySem.W.Fast.tw17349699886259220265 := 0
def PySem.W.Fast.tw6054232574195859436 := 0
def PySem.W.Fast.tw2513037821372090948 := 0
def PySem.W.Fast.tw16831107392989345984 := 0
def PySem.W.Fast.tw1600389495131882921 := 0
def PySem.W.Fast.tw6167802787527684300 := 0
def PySem.W.Fast.tw2911121692370162036 := 0
def PySem.W.Fast.tw15159662913442216795 := 0
def PySem.W.Fast.tw7095057536679250960 := 0
def PySem.W.Fast.tw16039940108051935736 := 0
def PySem.W.Fast.tw12180736120460024137 := 0
def PySem.W.Fast.tw10672463110001283752 := 0
def PySem.W.Fast.tw13401470322736163898 := 0
def PySem.W.Fast.tw5170117646610595837 := 0
def PySem.W.Fast.tw17256552788350652818 := 0
def PySem.W.Fast.tw6934798491504980671 := 0
def PySem.W.Fast.tw7835510488591257183 := 0
def PySem.W.Fast.tw3282930853719041746 := 0
def PySem.W.Fast.tw11664539200896530695 := 0
def PySem.W.Fast.tw3923325968251233506 := 0
def PySem.W.Fast.tw16493455493576561995 := 0
def PySem.W.Fast.tw1652837578309263368 := 0
def PySem.W.Fast.tw8248766213283903467 := 0
def PySem.W.Fast.tw13189681598986089422 := 0
def PySem.W.Fast.tw15515175287819967757 := 0
def PySem.W.Fast.tw10221852326171522329 := 0
def PySem.W.Fast.tw2415373031582726525 := 0
def PySem.W.Fast.tw8661318677458242467 := 0
def PySem.W.Fast.tw14239955706050481180 := 0
def PySem.W.Fast.tw8565694460044325994 := 0
def PySem.W.Fast.tw16375763513917975159 := 0
def PySem.W.Fast.tw14165707972871841597 := 0
def PySem.W.Fast.tw8521031452716938417 := 0
def PySem.W.Fast.tw4975915557569640380 := 0
def PySem.W.Fast.tw7035319495973558854 := 0
def PySem.W.Fast.tw32706094373313140 := 0
def PySem.W.Fast.tw12310622486294892914 := 0
def PySem.W.Fast.tw186753725009940711 := 0
def PySem.W.Fast.tw3610481651252167148 := 0
def PySem.W.Fast.tw13417487539869958124 := 0
def PySem.W.Fast.tw12655755932098342857 := 0
def PySem.W.Fast.tw7363266238258066623 := 0
def PySem.W.Fast.tw5799753519927992855 := 0
def PySem.W.Fast.tw16048362333480743339 := 0
def PySem.W.Fast.tw15608198111750774720 := 0
def PySem.W.Fast.tw5239682941872040862 := 0
def PySem.W.Fast.tw4914064835868489558 := 0
def PySem.W.Fast.tw18403304705460358754 := 0
def PySem.W.Fast.tw15033861334777561881 := 0
def PySem.W.Fast.tw13393933655553507184 := 0
def PySem.W.Fast.tw7451261745891496694 := 0
def PySem.W.Fast.tw3545286715338768816 := 0
def PySem.W.Fast.tw18315735718264677274 := 0
def PySem.W.Fast.tw190143638464206594 := 0
def PySem.W.Fast.tw13066816879268291781 := 0
open PySem PySem.W PyProof.Rows FL L2 in
set_option maxRecDepth 100000 in
set_option maxHeartbeats 0 in
theorem PySem.Challenge.cw_mirrorhouse_k53_whole_same_by_papers_holds : PySem.Challenge.rw_mirrorhouse_k53_whole_same_by_papers.Holds := by
 w_on; refine holds_law (by kernel_rfl) fun said => ?_; k_head; (case hw => w_witness2)
 k_fill
 refine L2.walk_ofK (l := PySem.Challenge.rw_mirrorhouse_k53_whole_same_by_papers) (n := 63) (k := 25) (x := "_law_script") (CX := CX0) (sp := fun K => FL.spF K 1 Pk53.g_law) rfl (by decide) rfl ⟨rfl, by decide, by decide⟩ (fun w h Y => PySem.W.kIn_of Y) ?F (fun K H a ns hl _ hS => FL.law_sp hS (Pk53.law_true ns hl)) (fun _ _ _ _ z => z)
 case F =>
  intro w mg fa h KX G hmg
  refine' Pk53.all_mk KX G hmg ?a0 ?l0 ?c0 ?k0 ?a1 ?l1 ?c1 ?k1 ?a2 ?l2 ?c2 ?k2 ?a3 ?l3 ?c3 ?k3 ?a4 ?l4 ?c4 ?k4 ?a5 ?l5 ?c5 ?k5 ?a6 ?l6 ?c6 ?k6 ?a7 ?l7 ?c7 ?k7 ?a8 ?l8 ?c8 ?k8 ?a9 ?l9 ?c9 ?k9 ?a10 ?l10 ?c10 ?k10 ?a11 ?l11 ?c11 ?k11 ?a12 ?l12 ?c12 ?k12 ?a13 ?l13 ?c13 ?k13 ?a14 ?l14 ?c14 ?k14 ?a15 ?l15 ?c15 ?k15 ?a16 ?l16 ?c16 ?k16 ?a17 ?l17 ?c17 ?k17 ?a18 ?l18 ?c18 ?k18 ?a19 ?l19 ?c19 ?k19 ?a20 ?l20 ?c20 ?k20 ?a21 ?l21 ?c21 ?k21 ?a22 ?l22 ?c22 ?k22 ?a23 ?l23 ?c23 ?k23 ?a24 ?l24 ?c24 ?k24 ?a25 ?l25 ?c25 ?k25 ?a26 ?l26 ?c26 ?k26 ?a27 ?l27 ?c27 ?k27 ?a28 ?l28 ?c28 ?k28 ?a29 ?l29 ?c29 ?k29 ?a30 ?l30 ?c30 ?k30 ?a31 ?l31 ?c31 ?k31 ?a32 ?l32 ?c32 ?k32 ?a33 ?l33 ?c33 ?k33 ?a34 ?l34 ?c34 ?k34 ?a35 ?l35 ?c35 ?k35 ?b_all ?b_bool ?b_enumerate ?b_int ?b_isinstance ?b_len ?b_list ?b_max ?b_min ?b_range ?b_reversed ?b_tuple ?b_zip ?q_DROP ?q_NEVER ?q_NOT_TOLD ?q_NOUGHT ?r_NOUGHT ?q_ONE ?r_ONE ?q_PULLS_BELOW_NOUGHT ?r_PULLS_BELOW_NOUGHT ?r_PULLS_BELOW_NOUGHT_0 ?r_PULLS_BELOW_NOUGHT_1 ?r_PULLS_BELOW_NOUGHT_2 ?r_PULLS_BELOW_NOUGHT_3 ?r_PULLS_BELOW_NOUGHT_4 ?r_PULLS_BELOW_NOUGHT_5 ?q_TURN ?wC ?wa0 ?wi0 ?wl0 ?wc0 ?wk0 ?wa1 ?wi1 ?wl1 ?wc1 ?wk1 ?wa2 ?wi2 ?wl2 ?wc2 ?wk2 ?wa3 ?wi3 ?wl3 ?wc3 ?wk3 ?wpg ?whd ?wpo ?wsa ?wmk ?wkc ?wnh ?wnw ?wnm
  (case a0 => k_is)
  (case l0 => k_is)
  (case c0 => k_is)
  (case k0 => k_is)
  (case a1 => k_is)
  (case l1 => k_is)
  (case c1 => k_is)
  (case k1 => k_is)
  (case a2 => k_is)
  (case l2 => k_is)
  (case c2 => k_is)
  (case k2 => k_is)
  (case a3 => k_is)
  (case l3 => k_is)
  (case c3 => k_is)
  (case k3 => k_is)
  (case a4 => k_is)
  (case l4 => k_is)
  (case c4 => k_is)
  (case k4 => k_is)
  (case a5 => k_is)
  (case l5 => k_is)
  (case c5 => k_is)
  (case k5 => k_is)
  (case a6 => k_is)
  (case l6 => k_is)
  (case c6 => k_is)
  (case k6 => k_is)
  (case a7 => k_is)
  (case l7 => k_is)
  (case c7 => k_is)
  (case k7 => k_is)
  (case a8 => k_is)
  (case l8 => k_is)
  (case c8 => k_is)
  (case k8 => k_is)
  (case a9 => k_is)
  (case l9 => k_is)
  (case c9 => k_is)
  (case k9 => k_is)
  (case a10 => k_is)
  (case l10 => k_is)
  (case c10 => k_is)
  (case k10 => k_is)
  (case a11 => k_is)
  (case l11 => k_is)
  (case c11 => k_is)
  (case k11 => k_is)
  (case a12 => k_is)
  (case l12 => k_is)
  (case c12 => k_is)
  (case k12 => k_is)
  (case a13 => k_is)
  (case l13 => k_is)
  (case c13 => k_is)
  (case k13 => k_is)
  (case a14 => k_is)
  (case l14 => k_is)
  (case c14 => k_is)
  (case k14 => k_is)
  (case a15 => k_is)
  (case l15 => k_is)
  (case c15 => k_is)
  (case k15 => k_is)
  (case a16 => k_is)
  (case l16 => k_is)
  (case c16 => k_is)
  (case k16 => k_is)
  (case a17 => k_is)
  (case l17 => k_is)
  (case c17 => k_is)
  (case k17 => k_is)
  (case a18 => k_is)
  (case l18 => k_is)
  (case c18 => k_is)
  (case k18 => k_is)
  (case a19 => k_is)
  (case l19 => k_is)
  (case c19 => k_is)
  (case k19 => k_is)
  (case a20 => k_is)
  (case l20 => k_is)
  (case c20 => k_is)
  (case k20 => k_is)
  (case a21 => k_is)
  (case l21 => k_is)
  (case c21 => k_is)
  (case k21 => k_is)
  (case a22 => k_is)
  (case l22 => k_is)
  (case c22 => k_is)
  (case k22 => k_is)
  (case a23 => k_is)
  (case l23 => k_is)
  (case c23 => k_is)
  (case k23 => k_is)
  (case a24 => k_is)
  (case l24 => k_is)
  (case c24 => k_is)
  (case k24 => k_is)
  (case a25 => k_is)
  (case l25 => k_is)
  (case c25 => k_is)
  (case k25 => k_is)
  (case a26 => k_is)
  (case l26 => k_is)
  (case c26 => k_is)
  (case k26 => k_is)
  (case a27 => k_is)
  (case l27 => k_is)
  (case c27 => k_is)
  (case k27 => k_is)
  (case a28 => k_is)
  (case l28 => k_is)
  (case c28 => k_is)
  (case k28 => k_is)
  (case a29 => k_is)
  (case l29 => k_is)
  (case c29 => k_is)
  (case k29 => k_is)
  (case a30 => k_is)
  (case l30 => k_is)
  (case c30 => k_is)
  (case k30 => k_is)
  (case a31 => k_is)
  (case l31 => k_is)
  (case c31 => k_is)
  (case k31 => k_is)
  (case a32 => k_is)
  (case l32 => k_is)
  (case c32 => k_is)
  (case k32 => k_is)
  (case a33 => k_is)
  (case l33 => k_is)
  (case c33 => k_is)
  (case k33 => k_is)
  (case a34 => k_is)
  (case l34 => k_is)
  (case c34 => k_is)
  (case k34 => k_is)
  (case a35 => k_is)
  (case l35 => k_is)
  (case c35 => k_is)
  (case k35 => k_is)
  (case b_all => k_is)
  (case b_bool => k_is)
  (case b_enumerate => k_is)
  (case b_int => k_is)
  (case b_isinstance => k_is)
  (case b_len => k_is)
  (case b_list => k_is)
  (case b_max => k_is)
  (case b_min => k_is)
  (case b_range => k_is)
  (case b_reversed => k_is)
  (case b_tuple => k_is)
  (case b_zip => k_is)
  (case q_DROP => k_is)
  (case q_NEVER => k_is)
  (case q_NOT_TOLD => k_is)
  (case q_NOUGHT => k_is)
  (case r_NOUGHT => k_is)
  (case q_ONE => k_is)
  (case r_ONE => k_is)
  (case q_PULLS_BELOW_NOUGHT => k_is)
  (case r_PULLS_BELOW_NOUGHT => k_is)
  (case r_PULLS_BELOW_NOUGHT_0 => k_is)
  (case r_PULLS_BELOW_NOUGHT_1 => k_is)
  (case r_PULLS_BELOW_NOUGHT_2 => k_is)
  (case r_PULLS_BELOW_NOUGHT_3 => k_is)
  (case r_PULLS_BELOW_NOUGHT_4 => k_is)
  (case r_PULLS_BELOW_NOUGHT_5 => k_is)
  (case q_TURN => k_is)
  (case wC => k_is)
  (case wa0 => k_is)
  (case wi0 => k_is)
  (case wl0 => k_is)
  (case wc0 => k_is)
  (case wk0 => k_is)
  (case wa1 => k_is)
  (case wi1 => k_is)
  (case wl1 => k_is)
  (case wc1 => k_is)
  (case wk1 => k_is)
  (case wa2 => k_is)
  (case wi2 => k_is)
  (case wl2 => k_is)
  (case wc2 => k_is)
  (case wk2 => k_is)
  (case wa3 => k_is)
  (case wi3 => k_is)
  (case wl3 => k_is)
  (case wc3 => k_is)
  (case wk3 => k_is)
  (case wpg => k_is)
  (case whd => k_is)
  (case wpo => k_is)
  (case wsa => k_is)
  (case wmk => k_is)
  (case wkc => k_is)
  (case wnh => k_is)
  (case wnw => k_is)
  (case wnm => k_is)
