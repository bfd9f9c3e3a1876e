import PyProof.Rows.All
import Wide.All
import OpenK.AllK
import Wide.FinOn
import PyProof.EqAt
import PyProof.EqKinds
import PyProof.TupleCall
import PyProof.ListMulAny
import KE.KIsAll
import Lean
import PySem.Challenge.RW_mirrorhouse_k64_whole_powers_of_endless
open Option renaming bind_some → g0a, map_some → g0z, bind_eq_some_iff → g1e, map_eq_some_iff → g1w, some → g2h, getD_some → g2y
open List renaming getElem?_cons_zero → g0b, getElem?_cons_succ → g0c, length_cons → g0d, replicate → g0e, map_cons → g0f, set_cons_zero → g0g, length_append → g0h, set_cons_succ → g0i, getD_eq_getElem?_getD → g0j, length_map → g0k, mem_cons_self → g0l, length_nil → g0m, mem_cons → g0n, mem_cons_of_mem → g0o, size_toArray → g0p, mem_append_right → g0q, nil_append → g0s, append_nil → g0t, range → g0u, cons_append → g0v, getElem?_map → g0w, getElem?_set → g0x, map_nil → g0y, getElem?_eq_some_iff → g1a, append_assoc → g1b, map_map → g1d, map_append → g1f, length_singleton → g1h, getElem?_eq_getElem → g1i, getElem?_append_right → g1j, getElem?_append_left → g1k, mem_append → g1l, range_succ_eq_map → g1m, replicate_succ → g1p, mem_filter → g1q, mem_map → g1r, mem_range → g1s, getElem?_eq_none → g1t, singleton_append → g1u, lookup_cons → g1v, map_congr_left → g1z, all_eq_true → g2b, getElem?_replicate → g2c, mem_append_left → g2d, reverse_reverse → g2f, length_set → g2g, flatten_cons → g2i, lookup → g2j, length_reverse → g2k, drop_eq_getElem_cons → g2l, mem_of_getElem? → g2m, find?_cons → g2n, reverse_cons → g2o, any_cons → g2p, reverse_append → g2q, filter_cons_of_neg → g2r, eq_nil_of_length_eq_zero → g2s, any_eq_true → g2t, getElem?_set_self → g2u, take_of_length_le → g2v, nodup_cons → g2w, length_filter_le → g2x, ext_getElem → g2z, mem_filterMap → g3d, pairwise_cons → g3g, length_eq_zero_iff → g3h, range_succ → g3i, filter_cons_of_pos → g3j
open Nat renaming le_refl → g0r, lt_of_lt_of_le → g1c, ne_of_lt → g1g, le_trans → g1x, zero_add → g1y, zero_le → g2e, le_succ → g3a, le_of_lt → g3b, lt_irrefl → g3c, lt_of_le_of_lt → g3e
open Bool renaming false_ne_true → g1n, false_eq_true → g1o, and_eq_true → g2a, or_eq_true → g3f
set_option Elab.async false
set_option linter.all false
set_option maxRecDepth 100000
namespace L2
open PySem PySem.Spec PyProof.Rows
abbrev Key := Sum Int Str
def Uu : Key -> Value -> Bool
 | .inl k, v => Value.isInt k v
 | .inr x, v => Value.isStrOf x v
def Px (w : World) : Key -> Int
 | .inl k => hashInt k
 | .inr x => hashStr w x
theorem yN : ∀ {k : Key} {v : Value}, Uu k v = true -> (∃ i t, k = Sum.inl i /\ v = Value.int i t) \/ (∃ x t, k = Sum.inr x /\ v = Value.str x t)
 | .inl i, v, h => by
  obtain ⟨t, e⟩ := Value.isInt_shape (k := i) (v := v) h
  exact .inl ⟨i, t, rfl, e⟩
 | .inr x, v, h => by
  obtain ⟨t, e⟩ := Value.isStrOf_shape (x := x) (v := v) h
  exact .inr ⟨x, t, rfl, e⟩
theorem QU (i : Int) (t : Tok) : Uu (.inl i) (.int i t) = true := by simp [Uu, Value.isInt]
theorem QT (x : Str) (t : Tok) : Uu (.inr x) (.str x t) = true := by simp [Uu, Value.isStrOf]
theorem Fx (a b : Int) : decide ((Sum.inl a : Key) = Sum.inl b) = (a == b) := by
 by_cases e : a = b
 ·subst e; simp
 ·have h : ¬ (Sum.inl a : Key) = Sum.inl b := fun q => e (Sum.inl.inj q)
  rw [decide_eq_false h]
  exact (beq_eq_false_iff_ne.mpr e).symm
theorem Fu (a b : Str) : decide ((Sum.inr a : Key) = Sum.inr b) = decide (a = b) := by
 by_cases e : a = b
 ·subst e; simp
 ·have h : ¬ (Sum.inr a : Key) = Sum.inr b := fun q => e (Sum.inr.inj q)
  rw [decide_eq_false h, decide_eq_false e]
theorem Fw (a : Int) (b : Str) : decide ((Sum.inl a : Key) = Sum.inr b) = false := decide_eq_false (fun q => nomatch q)
theorem Fv (a : Str) (b : Int) : decide ((Sum.inr a : Key) = Sum.inl b) = false := decide_eq_false (fun q => nomatch q)
def xj (prog : Program) (w : World) : PySem.KeyKind prog w Key where
 is := Uu
 hash := Px w
 inj := fun v a b ha hb => by
  rcases yN ha with ⟨i, t, rfl, rfl⟩ | ⟨x, t, rfl, rfl⟩
  ·rcases yN hb with ⟨j, u, rfl, e⟩ | ⟨y, u, rfl, e⟩
   ·injection e with e1 _; rw [e1]
   ·exact nomatch e
  ·rcases yN hb with ⟨j, u, rfl, e⟩ | ⟨y, u, rfl, e⟩
   ·exact nomatch e
   ·injection e with e1 _; rw [e1]
 byValue := fun k v h => by
  rcases yN h with ⟨i, t, rfl, rfl⟩ | ⟨x, t, rfl, rfl⟩ <;> rfl
 pyHash := fun hv h => by
  rcases yN hv with ⟨i, t, rfl, rfl⟩ | ⟨x, t, rfl, rfl⟩
  ·exact wpAny_pyHash_int h
  ·exact wpAny_pyHash_str h
 eqBool := fun hu hv h => by
  rcases yN hu with ⟨i, t, rfl, rfl⟩ | ⟨x, t, rfl, rfl⟩
  ·rcases yN hv with ⟨j, u, rfl, rfl⟩ | ⟨y, u, rfl, rfl⟩
   ·rw [Fx] at h; exact wpAny_eqBool_int h
   ·rw [Fw] at h; exact SeqAt.EqAt.int_str i t y u _ _ _ _ h
  ·rcases yN hv with ⟨j, u, rfl, rfl⟩ | ⟨y, u, rfl, rfl⟩
   ·rw [Fv] at h; exact SeqAt.EqAt.str_int x t j u _ _ _ _ h
   ·rw [Fu] at h; exact wpAny_eqBool_str h
 «strs» := fun k x t v h => by
  rcases yN h with ⟨i, u, rfl, e⟩ | ⟨y, u, rfl, e⟩
  ·exact nomatch e
  ·injection e with e1 _
   subst e1
   cases v <;> rfl
theorem Wg (prog : Program) (w : World) (i : Int) (t : Tok) : (xj prog w).is (.inl i) (.int i t) = true := QU i t
theorem Wf (prog : Program) (w : World) (x : Str) (t : Tok) : (xj prog w).is (.inr x) (.str x t) = true := QT x t
inductive V where
 | non | bl (b : Bool) | int (i : Int) | str (x : Str) | byt (b : Array UInt8) | flt (b : UInt64) | ref (a : Addr) | ty (n : String)
 deriving DecidableEq
def yV : V -> Value -> Prop
 | .non, u => u = Value.none
 | .bl b, u => u = Value.bool b
 | .int i, u => ∃ t, u = Value.int i t
 | .str x, u => ∃ t, u = Value.str x t
 | .byt b, u => ∃ t, u = Value.bytes b t
 | .flt b, u => ∃ t, u = Value.float b t
 | .ref a, u => u = Value.ref a
 | .ty n, u => u = Value.type n
abbrev yP : List V -> List Value -> Prop := Paired yV
theorem yP.length {xs : List V} {us : List Value} (r : yP xs us) : xs.length = us.length := Paired.length r
theorem yP.get : ∀ {xs : List V} {us : List Value} {i : Nat} {x : V}, yP xs us -> xs[i]? = some x -> ∃ u, us[i]? = some u /\ yV x u
 | _, _, _, _, .nil, e => by simp at e
 | _, _, 0, _, .cons r _, e => by simp at e; subst e; exact ⟨_, rfl, r⟩
 | _, _, i + 1, x, .cons _ t, e => by
  obtain ⟨u, h1, h2⟩ := yP.get (i := i) (x := x) t (by simpa using e)
  exact ⟨u, by simpa using h1, h2⟩
theorem yP.set {x : V} {u : Value} (r : yV x u) : ∀ {xs : List V} {us : List Value} (i : Nat), yP xs us -> yP (xs.set i x) (us.set i u)
 | _, _, _, .nil => .nil
 | _, _, 0, .cons _ t => .cons r t
 | _, _, i + 1, .cons q t => .cons q (yP.set r i t)
theorem yP.append : ∀ {xs ys : List V} {us ws : List Value}, yP xs us -> yP ys ws -> yP (xs ++ ys) (us ++ ws)
 | _, _, _, _, .nil, s => s
 | _, _, _, _, .cons r t, s => .cons r (yP.append t s)
theorem yP.take : ∀ {xs : List V} {us : List Value} (n : Nat), yP xs us -> yP (xs.take n) (us.take n)
 | _, _, 0, _ => .nil
 | _, _, _ + 1, .nil => .nil
 | _, _, n + 1, .cons r t => .cons r (yP.take n t)
theorem yP.drop : ∀ {xs : List V} {us : List Value} (n : Nat), yP xs us -> yP (xs.drop n) (us.drop n)
 | _, _, 0, r => r
 | _, _, _ + 1, .nil => .nil
 | _, _, n + 1, .cons _ t => yP.drop n t
def CS : Option V -> Option Value -> Prop
 | some v, some u => yV v u
 | none, none => True
 | _, _ => False
def KV {κ : Type} : List (κ × V) -> List (κ × Value) -> Prop := Paired fun (p : κ × V) (q : κ × Value) => p.1 = q.1 /\ yV p.2 q.2
def kV : Key -> V
 | .inl i => .int i
 | .inr x => .str x
inductive HO where
  | lst (xs : List V)
  | tup (xs : List V)
  | dK (kvs : List (Key × V)) | dT (kvs : List (List Key × V))
  | set (S : Int -> Bool) (n : Nat)
  | ins (C dx : Addr) (fs : List (Str × V))
  | own (x : Addr)
  | xd (fs : List (Str × V))
  | met (f x : Addr)
  | rng (lo hi : Int)
  | frz (o : Obj) (u : HO)
  | tbl (ps : Array Value)
  | ext (φ : Heap -> Prop)
abbrev Hp := Addr -> Option HO
def upd (H : Hp) (a : Addr) (o : HO) : Hp := fun b => if b = a then some o else H b
theorem zq {H : Hp} {a : Addr} {o : HO} : upd H a o a = some o := by unfold upd; rw [if_pos rfl]
theorem zF {H : Hp} {a b : Addr} {o : HO} (h : b ≠ a) : upd H a o b = H b := by unfold upd; rw [if_neg h]
theorem Fl {H : Hp} {a b : Addr} {o u : HO} (h : H a = some o) (h' : H b = some u) (d : o ≠ u) : a ≠ b := by
 intro e; subst e; rw [h] at h'; exact d (g2h.inj h')
theorem ya {H : Hp} {a b : Addr} {o : HO} (h : H a = some o) (h' : H b = none) : a ≠ b := by
 intro e; subst e; rw [h] at h'; cases h'
section
variable (P : Program) (w : World)
def we (H : Hp) (h : Heap) (a : Addr) : HO -> Prop
 | .lst xs => xs.length <= sizeLine /\ ∃ (its : List Value) (n : Nat), yP xs its /\ h.get? a = some { cls := .type "list", data := .seq its.toArray n }
 | .tup xs => xs.length <= sizeLine /\ ∃ its : List Value, yP xs its /\ IsTup h a its.toArray
 | .dK kvs => kvs.length <= sizeLine /\ (a == sysModules) = false /\ ∃ vs, KV kvs vs /\ h.DictOf (xj P w) a vs
 | .dT kvs => kvs.length <= sizeLine /\ (a == sysModules) = false /\ ∃ xs : List (List Key × Addr × Value),
   Paired (fun (p : List Key × V) (q : List Key × Addr × Value) => p.1 = q.1 /\ H q.2.1 = some (.tup (p.1.map kV)) /\ yV p.2 q.2.2) kvs xs ∧
   ∃ o es ep, h.get? a = some o /\ o.ExactDict /\ o.data = .dict es ep /\ es.toList = xs.map (entryOfKey (tupleKind (xj P w))) /\ (xs.map (·.1)).Nodup
 | .set S n => h.SetOf (intKind P w) a S n
 | .ins C dx fs => H dx = some (.own a) /\ fs.length <= 1000 /\ dx ≠ a /\ h.get? a = some (PySem.W.instObj C dx) ∧
   ∃ mA, h.Ns1 dx mA /\ (∀ f, CS (fs.lookup f) (mA f)) /\ PySem.Within mA (fs.map (·.1))
 | .own _ => ∃ o, h.get? a = some o
 | .xd fs => ∃ mA, h.Ns1 a mA /\ ∀ f, CS (fs.lookup f) (mA f)
 | .rng lo hi => ∃ t u v, h.get? a = some { cls := .type "range", data := .fields #[.int lo t, .int hi u, .int 1 v] }
 | .frz o u => h.get? a = some o /\ we H h a u
 | .tbl ps => h.get? a = some { cls := .none, data := .fields ps }
 | .met f x => h.get? a = some (PySem.W.methodObj (.ref f) (.ref x))
 | .ext φ => φ h /\ (∃ o, h.get? a = some o) /\ ∀ h1 h2 : Heap, φ h1 -> (∀ o, h1.get? a = some o -> h2.get? a = some o) -> φ h2
def HOk (H : Hp) (h : Heap) : Prop := ∀ a o, H a = some o -> we P w H h a o
end
section
variable {P : Program} {w : World} {H H' : Hp} {h h' : Heap} {a : Addr} {o : HO}
theorem we.lt (x : we P w H h a o) : a < h.objs.size := by
 cases o with
 | lst xs => obtain ⟨_, _, _, _, e⟩ := x; exact Heap.lt_size e
 | tup xs => obtain ⟨_, _, _, p⟩ := x; exact p.lt
 | dK kvs => obtain ⟨_, _, _, _, o, _, _, e, _⟩ := x; exact Heap.lt_size e
 | dT kvs => obtain ⟨_, _, _, _, o, _, _, e, _⟩ := x; exact Heap.lt_size e
 | set S n => obtain ⟨o, _, _, _, e, _⟩ := x; exact Heap.lt_size e
 | ins C dx fs => obtain ⟨_, _, _, e, _⟩ := x; exact Heap.lt_size e
 | own y => obtain ⟨_, e⟩ := x; exact Heap.lt_size e
 | xd fs => obtain ⟨_, ⟨_, _, _, e, _⟩, _⟩ := x; exact Heap.lt_size e
 | rng lo hi => obtain ⟨_, _, _, e⟩ := x; exact Heap.lt_size e
 | frz ob u => obtain ⟨e, _⟩ := x; exact Heap.lt_size e
 | tbl ps => exact Heap.lt_size (show h.get? a = some _ from x)
 | met f y => exact Heap.lt_size (show h.get? a = some _ from x)
 | ext φ => obtain ⟨_, ⟨_, e⟩, _⟩ := x; exact Heap.lt_size e
theorem Paired.mapP {α β : Type} {F G : α -> β -> Prop} : ∀ {l₁ : List α} {l₂ : List β}, Paired F l₁ l₂ -> (∀ a b, F a b -> G a b) -> Paired G l₁ l₂
 | _, _, .nil, _ => .nil
 | _, _, .cons r t, f => .cons (f _ _ r) (Paired.mapP t f)
theorem we.stay (x : we P w H h a o) (k : ∀ b u, (b = a \/ H b = some (.own a)) -> h.get? b = some u -> h'.get? b = some u)
  (ho : ∀ b, H b = some (.own a) -> H' b = some (.own a)) (ht : ∀ b xs, H b = some (.tup xs) -> H' b = some (.tup xs)) : we P w H' h' a o := by
 induction o with
 | lst xs => obtain ⟨z, its, n, r, e⟩ := x; exact ⟨z, its, n, r, k _ _ (.inl rfl) e⟩
 | tup xs => obtain ⟨z, its, r, ob, e, c⟩ := x; exact ⟨z, its, r, ob, k _ _ (.inl rfl) e, c⟩
 | dK kvs => obtain ⟨z, y, vs, r, ob, es, ep, e, c⟩ := x; exact ⟨z, y, vs, r, ob, es, ep, k _ _ (.inl rfl) e, c⟩
 | dT kvs =>
  obtain ⟨z, y, xs, r, ob, es, ep, e, c⟩ := x
  exact ⟨z, y, xs, Paired.mapP r fun p q z => ⟨z.1, ht _ _ z.2.1, z.2.2⟩, ob, es, ep, k _ _ (.inl rfl) e, c⟩
 | set S n => obtain ⟨ob, es, ep, t, e, c⟩ := x; exact ⟨ob, es, ep, t, k _ _ (.inl rfl) e, c⟩
 | ins C dx fs =>
  obtain ⟨d, z, ne, e, mA, ⟨od, es, ep, e2, c⟩, r⟩ := x
  exact ⟨ho _ d, z, ne, k _ _ (.inl rfl) e, mA, ⟨od, es, ep, k _ _ (.inr d) e2, c⟩, r⟩
 | own y => obtain ⟨ob, e⟩ := x; exact ⟨ob, k _ _ (.inl rfl) e⟩
 | xd fs => obtain ⟨mA, ⟨od, es, ep, e, c⟩, r⟩ := x; exact ⟨mA, ⟨od, es, ep, k _ _ (.inl rfl) e, c⟩, r⟩
 | rng lo hi => obtain ⟨t, u, v, e⟩ := x; exact ⟨t, u, v, k _ _ (.inl rfl) e⟩
 | frz ob u ih => obtain ⟨e, q⟩ := x; exact ⟨k _ _ (.inl rfl) e, ih q⟩
 | tbl ps =>
  have e : h.get? a = some { cls := .none, data := .fields ps } := x
  show h'.get? a = some { cls := .none, data := .fields ps }
  exact k a _ (.inl rfl) e
 | met f y =>
  have e : h.get? a = some (PySem.W.methodObj (.ref f) (.ref y)) := x
  show h'.get? a = some (PySem.W.methodObj (.ref f) (.ref y))
  exact k a _ (.inl rfl) e
 | ext φ => obtain ⟨p, ⟨o, e⟩, st⟩ := x; exact ⟨st _ _ p fun o q => k _ _ (.inl rfl) q, ⟨o, k _ _ (.inl rfl) e⟩, st⟩
theorem HOk.lt (x : HOk P w H h) (e : H a = some o) : a < h.objs.size := (x a o e).lt
theorem HOk.fresh (x : HOk P w H h) (e : h.objs.size <= a) : H a = none := by
 cases q : H a with
 | none => rfl
 | some u => exact absurd (g1c (x.lt q) e) (g3c _)
theorem HOk.kept (x : HOk P w H h) (k : ∀ b u, h.get? b = some u -> h'.get? b = some u) : HOk P w H h' := fun a o e =>
 (x a o e).stay (fun b u _ q => k b u q) (fun _ q => q) fun _ _ q => q
theorem HOk.laid (x : HOk P w H h) (k : ∀ b u, h.get? b = some u -> h'.get? b = some u) (hp : h.objs.size <= a) (new : we P w (upd H a o) h' a o) : HOk P w (upd H a o) h' := fun b u e => by
 have hn := x.fresh hp
 by_cases hb : b = a
 ·subst hb; rw [zq] at e; cases e; exact new
 ·rw [zF hb] at e
  exact (x b u e).stay (fun c v _ q => k c v q) (fun c q => by rw [zF (ya q hn)]; exact q) fun c xs q => by rw [zF (ya q hn)]; exact q
end
def Rd (H : Hp) (a : Addr) (u : HO) : Prop := H a = some u \/ ∃ o, H a = some (.frz o u)
theorem Rd.ok {P : Program} {w : World} {H : Hp} {h : Heap} {a : Addr} {u : HO} (r : Rd H a u) (x : HOk P w H h) : we P w H h a u := by
 rcases r with r | ⟨o, r⟩
 ·exact x a u r
 ·obtain ⟨_, q⟩ := x a _ r
  exact q
def Mut : Option HO -> Prop
 | some (.lst _) => True
 | some (.dK _) => True
 | some (.dT _) => True
 | some (.set _ _) => True
 | some (.ins _ _ _) => True
 | some (.ext _) => True
 | _ => False
section
variable {P : Program} {w : World} {H : Hp} {h h' : Heap} {x e : Addr} {o' : HO}
theorem HOk.write (ok : HOk P w H h) (mu : Mut (H x)) (he : e = x \/ H e = some (.own x)) (k : ∀ b u, b ≠ e -> h.get? b = some u -> h'.get? b = some u) (heo : ∃ u, h'.get? e = some u)
  (new : we P w (upd H x o') h' x o') : HOk P w (upd H x o') h' := fun b u q => by
 have nown : ∀ c y, H c = some (.own y) -> c ≠ x := fun c y r z => by subst z; rw [r] at mu; exact mu
 have ntup : ∀ c xs, H c = some (.tup xs) -> c ≠ x := fun c xs r z => by subst z; rw [r] at mu; exact mu
 by_cases hb : b = x
 ·subst hb; rw [zq] at q; cases q; exact new
 ·rw [zF hb] at q
  by_cases hbe : b = e
  ·have q' : H b = some (.own x) := by
    rcases he with z | z
    ·exact absurd (hbe.trans z) hb
    ·rw [hbe]; exact z
   rw [q] at q'; cases q'
   obtain ⟨v, hv⟩ := heo
   exact ⟨v, by rw [hbe]; exact hv⟩
  ·refine (ok b u q).stay (fun c v hc r => k c v ?_ r) (fun c r => by rw [zF (nown c b r)]; exact r) fun c xs r => by rw [zF (ntup c xs r)]; exact r
   rcases hc with rfl | hc
   ·exact hbe
   ·rintro rfl
    rcases he with z | z
    ·exact nown c b hc z
    ·rw [hc] at z; cases z; exact hb rfl
end
structure Un (fs ex : List Addr) (H H' : Hp) (h h' : Heap) : Prop where
 keep : ∀ b o, h.get? b = some o -> H b = none -> b ∉ fs -> b ∉ ex -> h'.get? b = some o
 slot : ∀ b o, h.get? b = some o -> H b = none -> b ∈ fs -> b ∉ ex -> ∃ sl, h'.get? b = some { o with slots := sl }
 free : ∀ b o, h.get? b = some o -> H b = none -> b ∉ ex -> H' b = none
 there : ∀ b o, h.get? b = some o -> b ∉ ex -> ∃ o', h'.get? b = some o'
 tups : ∀ b xs, H b = some (.tup xs) -> H' b = some (.tup xs)
 frzs : ∀ b o u, H b = some (.frz o u) -> H' b = some (.frz o u)
 tbls : ∀ b ps, H b = some (.tbl ps) -> ∃ more, H' b = some (.tbl (ps ++ more))
section
variable {fs fs' ex ex' : List Addr} {H H1 H2 : Hp} {h h1 h2 h' : Heap} {a x e : Addr} {o : HO}
theorem Un.any (u : Un fs ex H H1 h h1) {b : Addr} {ob : Obj} (q : h.get? b = some ob) (n : H b = none) (hx : b ∉ ex) : ∃ sl, h1.get? b = some { ob with slots := sl } := by
 by_cases hb : b ∈ fs
 ·exact u.slot b ob q n hb hx
 ·exact ⟨ob.slots, u.keep b ob q n hb hx⟩
theorem Un.kept (k : ∀ b u, h.get? b = some u -> h'.get? b = some u) : Un fs ex H H h h' :=
 ⟨fun b ob q _ _ _ => k b ob q, fun b ob q _ _ _ => ⟨ob.slots, k b ob q⟩, fun _ _ _ n _ => n, fun b ob q _ => ⟨ob, k b ob q⟩, fun _ _ q => q, fun _ _ _ q => q, fun _ ps q => ⟨#[], by rw [q]; simp⟩⟩
theorem Un.refl : Un fs ex H H h h := Un.kept fun _ _ q => q
theorem Un.laid (k : ∀ b u, h.get? b = some u -> h'.get? b = some u) (hp : h.objs.size <= a) (hn : H a = none) : Un fs ex H (upd H a o) h h' where
 keep := fun b u q _ _ _ => k b u q
 slot := fun b u q _ _ _ => ⟨u.slots, k b u q⟩
 free := fun b u q n _ => by rw [zF (g1g (g1c (Heap.lt_size q) hp))]; exact n
 there := fun b u q _ => ⟨u, k b u q⟩
 tups := fun b xs q => by rw [zF (ya q hn)]; exact q
 frzs := fun b u xs q => by rw [zF (ya q hn)]; exact q
 tbls := fun b ps q => ⟨#[], by rw [zF (ya q hn), q]; simp⟩
theorem Un.write (mu : Mut (H x)) (he : e = x \/ H e = some (.own x)) (k : ∀ b u, b ≠ e -> h.get? b = some u -> h'.get? b = some u) (heo : ∃ u, h'.get? e = some u) : Un fs ex H (upd H x o) h h' := by
 have hx : ∀ b, H b = none -> b ≠ x := fun b n z => by subst z; rw [n] at mu; exact mu
 have hb : ∀ b, H b = none -> b ≠ e := fun b n z => by
  subst z
  rcases he with r | r
  ·exact hx b n r
  ·rw [n] at r; cases r
 have hm : ∀ b u, H b = some u -> ¬ Mut (some u) -> b ≠ x := fun b u q nm z => by subst z; rw [q] at mu; exact nm mu
 refine ⟨fun b u q n _ _ => k b u (hb b n) q, fun b u q n _ _ => ⟨u.slots, k b u (hb b n) q⟩, fun b u q n _ => by rw [zF (hx b n)]; exact n, fun b u q _ => ?_,
  fun b xs q => by rw [zF (hm b _ q fun z => z)]; exact q, fun b u xs q => by rw [zF (hm b _ q fun z => z)]; exact q, fun b ps q => ⟨#[], by rw [zF (hm b _ q fun z => z), q]; simp⟩⟩
 by_cases hbe : b = e
 ·subst hbe; exact heo
 ·exact ⟨u, k b u hbe q⟩
end
def trk (h : Heap) (H : Hp) : List Addr := (g0u h.objs.size).filter fun a => (H a).isSome
def Gr (h : Heap) (H : Hp) : Heap := PySem.W.hideAll h (trk h H)
theorem Q5 (h : Heap) (H : Hp) : (Gr h H).objs.size = h.objs.size := PySem.W.hideAll_size _ _
theorem Gq {h : Heap} {H : Hp} {b : Addr} {o : Obj} (e : h.get? b = some o) (n : H b = none) : (Gr h H).get? b = some o :=
 PySem.W.hideAll_get _ e fun hm => by
  have q : (H b).isSome = true := (g1q.mp hm).2
  rw [n] at q; simp at q
theorem BF {h : Heap} {H : Hp} {b : Addr} {o : Obj} (e : (Gr h H).get? b = some o) : h.get? b = some o /\ H b = none := by
 have e' : h.get? b = some o := PySem.W.of_hideAll (trk h H) e
 refine ⟨e', ?_⟩
 cases q : H b with
 | none => rfl
 | some x =>
  have hm : b ∈ trk h H := g1q.mpr ⟨g1s.mpr (Heap.lt_size e'), by simp [q]⟩
  have z : (Gr h H).get? b = none := PySem.W.hideAll_none (trk h H) hm
  rw [z] at e; cases e
def CQ (g h : Heap) (L : Addr) : List (Addr × Obj) := (g0u h.objs.size).filterMap fun a => if a = L \/ (g.get? a).isSome = true then none else (h.get? a).map fun o => (a, o)
def jU (g h : Heap) (L d : Addr) : List (Addr × Obj) := (CQ g h L).filter fun p => decide (p.1 ≠ d)
structure Mod (K : W.Frag) (mg : Str -> Option Value) (base : Heap) : Prop where
 kin : K.In base
 glob : base.Ns mainGlobals mg
 blt : ∃ mb, base.Ns builtinsNs mb /\ ∀ x : Str, x ≠ "__name__" -> mb x = bootBuiltins x
 nolimit : base.NoLimit
structure Cx where
 prog : Program
 w : World
 K : W.Frag
 mg : Str -> Option Value
 base : Heap
 A : Around
 N : List Str
 s₀ : Shared
 H₀ : Hp
 env : Env
 outer : List Env
 stack : List Env
 ex : List Addr
 fn : Str -> Bool
 calm : Bool
 pn : List (Addr × Obj)
 xe : Value -> Shared -> Prop
def frs (l : List Env) : List Addr := l.filterMap (·.frame)
abbrev Cx.fs (X : Cx) : List Addr := frs X.outer
def Vis (sc : Scope) (x : Str) : Prop := sc.names.lookup x = some .local \/ sc.names.lookup x = some .cell \/ sc.names.lookup x = some .free
def Loc (sc : Scope) (x : Str) : Prop := sc.names.lookup x = some .local \/ sc.names.lookup x = some .cell
def PJ (env : Env) (h : Heap) (m : Str -> Option Value) (x : Str) (u : Value) : Prop :=
 (env.kindOf x = some .local /\ m x = some u) \/ ((env.kindOf x = some .cell \/ env.kindOf x = some .free) /\ ∃ c, env.cells.lookup x = some c /\ h.IsCell c (some u))
structure Cx.Ok (X : Cx) : Prop where
 mod : Mod X.K X.mg X.base
 kind : X.env.scope.kind = .function
 glob : X.env.globals = mainGlobals
 blt : X.env.builtins = builtinsNs
 above : X.s₀.heap.objs.size <= X.env.locals
 inj : ∀ x y c, X.env.cells.lookup x = some c -> X.env.cells.lookup y = some c -> x = y
 has : ∀ x, (X.env.kindOf x = some .cell \/ X.env.kindOf x = some .free) -> ∃ c, X.env.cells.lookup x = some c
 cab : ∀ x c, X.fn x = true -> X.env.cells.lookup x = some c -> X.s₀.heap.objs.size <= c
 hd : X.calm = true -> X.A.handled = none
 frames : X.A.frames = some X.stack
 stk : X.stack = X.outer \/ (X.stack = X.env :: X.outer /\ X.env.frame = some X.env.locals)
 exf : ∀ b ∈ X.ex, b ≠ X.env.locals /\ ∀ x c, X.env.cells.lookup x = some c -> c ≠ b
 bs : ∀ b o, X.base.get? b = some o -> X.s₀.heap.get? b = some o /\ X.H₀ b = none
 bsz : X.base.objs.size <= X.s₀.heap.objs.size
 noex : ∀ b o, X.base.get? b = some o -> b ∉ X.ex
 exfs : ∀ b ∈ X.ex, b ∉ X.fs
 funs : X.s₀.heap.FunFrames X.base X.outer
 frf : ∀ b ∈ X.fs, X.H₀ b = none
structure Inv (X : Cx) (pins : List (Addr × Obj)) (σ : List (Option V)) (H : Hp) (s : Shared) : Prop where
 ok : X.Ok
 os : s.os = X.s₀.os
 bare : AllBare s.gens
 base : Un X.fs X.ex X.H₀ H X.s₀.heap s.heap
 loc : ∃ m, s.heap.Ns X.env.locals m /\ ∀ (i : Nat) (x : Str) (v : V), X.N[i]? = some x -> σ[i]? = some (some v) -> Vis X.env.scope x -> ∃ u, yV v u /\ PJ X.env s.heap m x u
 cell : ∀ x c, X.env.cells.lookup x = some c -> ∃ v, s.heap.IsCell c v
 free : H X.env.locals = none
 freeC : ∀ x c, X.env.cells.lookup x = some c -> H c = none
 pin : ∀ p ∈ X.pn ++ pins, s.heap.get? p.1 = some p.2 /\ H p.1 = none /\ p.1 ≠ X.env.locals /\ p.1 ∉ X.fs /\ ∀ v, p.2.data ≠ .cell v
 hok : HOk X.prog X.w H s.heap
 len : σ.length = X.N.length
section
variable {X : Cx} {pins : List (Addr × Obj)} {σ : List (Option V)} {H H' : Hp} {s : Shared} {h' : Heap}
theorem Cx.Ok.nofr (ok : X.Ok) {b : Addr} {o : Obj} (e : X.base.get? b = some o) : b ∉ X.fs := fun hb => by
 have := (ok.funs.mem hb).1
 rw [e] at this; cases this
theorem Inv.bs (I : Inv X pins σ H s) : ∀ b o, X.base.get? b = some o -> s.heap.get? b = some o /\ H b = none := fun b o e =>
 ⟨I.base.keep b o (I.ok.bs b o e).1 (I.ok.bs b o e).2 (I.ok.nofr e) (I.ok.noex b o e), I.base.free b o (I.ok.bs b o e).1 (I.ok.bs b o e).2 (I.ok.noex b o e)⟩
theorem Inv.bk (I : Inv X pins σ H s) : ∀ b o, X.base.get? b = some o -> s.heap.get? b = some o := fun b o e => (I.bs b o e).1
theorem Inv.mod (I : Inv X pins σ H s) : Mod X.K X.mg X.base := I.ok.mod
theorem Inv.kIn (I : Inv X pins σ H s) : X.K.In s.heap := I.ok.mod.kin.keeps I.bk
theorem Inv.lt (I : Inv X pins σ H s) : X.env.locals < s.heap.objs.size := let ⟨_, hn, _⟩ := I.loc; hn.lt
theorem Inv.sz (I : Inv X pins σ H s) : X.s₀.heap.objs.size <= s.heap.objs.size := g1x I.ok.above (g3b I.lt)
theorem Inv.nofs (I : Inv X pins σ H s) {a : Addr} (h : s.heap.objs.size <= a) : a ∉ X.fs := fun hb => by
 obtain ⟨_, o, ho, _⟩ := I.ok.funs.mem hb
 exact absurd (g1c (Heap.lt_size ho) (g1x I.sz h)) (g3c _)
theorem Inv.cne (I : Inv X pins σ H s) : ∀ x c, X.env.cells.lookup x = some c -> c ≠ X.env.locals := fun x c e z => by
 obtain ⟨v, o, ho, hd⟩ := I.cell x c e
 obtain ⟨m, ⟨o', es, ep, ho', hd', _⟩, _⟩ := I.loc
 rw [z, ho'] at ho; cases ho; rw [hd'] at hd; cases hd
theorem Inv.funs (I : Inv X pins σ H s) : s.heap.FunFrames X.base X.outer := by
 have all : ∀ (l : List Env), (∀ b ∈ frs l, b ∈ X.fs) -> X.s₀.heap.FunFrames X.base l -> s.heap.FunFrames X.base l := by
  intro l
  induction l with
  | nil => intro _ _; trivial
  | cons env r ih =>
   intro hs hl
   obtain ⟨hk, ⟨L, o, hf, hn, ho, hd⟩, hr⟩ := hl
   have hL : L ∈ X.fs := hs L (by unfold frs; rw [List.filterMap_cons, hf]; exact g0l)
   obtain ⟨sl, e⟩ := I.base.slot L o ho (I.ok.frf L hL) hL fun z => I.ok.exfs L z hL
   exact ⟨hk, ⟨L, _, hf, hn, e, hd⟩, ih (fun b hb => hs b (by unfold frs; rw [List.filterMap_cons, hf]; exact g0o _ hb)) hr⟩
 exact all X.outer (fun _ hb => hb) I.ok.funs
theorem Inv.stack (I : Inv X pins σ H s) : s.heap.FunFrames X.base X.stack := by
 rcases I.ok.stk with e | ⟨e, hf⟩
 ·rw [e]; exact I.funs
 ·rw [e]
  obtain ⟨m, hn, _⟩ := I.loc
  refine .cons (by rw [I.ok.kind]; decide) hf hn ?_ I.funs
  exact Heap.get?_none_of_le (g1x I.ok.bsz I.ok.above)
theorem Inv.stkSub (I : Inv X pins σ H s) : ∀ b ∈ frs X.stack, b ∈ X.env.locals :: X.fs := fun b hb => by
 rcases I.ok.stk with e | ⟨e, hf⟩
 ·rw [e] at hb; exact g0o _ hb
 ·rw [e] at hb
  unfold frs at hb
  rw [List.filterMap_cons, hf] at hb
  exact hb
theorem Inv.stkFree (I : Inv X pins σ H s) : ∀ b ∈ frs X.stack, H b = none := fun b hb => by
 rcases g0n.mp (I.stkSub b hb) with e | hb
 ·rw [e]; exact I.free
 ·obtain ⟨_, o, ho, _⟩ := I.ok.funs.mem hb
  exact I.base.free b o ho (I.ok.frf b hb) fun z => I.ok.exfs b z hb
theorem Inv.step {g' : Array GenState} {t' : Nat} {d' : Drawn} {ch : List Addr} (I : Inv X pins σ H s)
  (hch : ∀ b ∈ ch, (b ∈ X.ex \/ X.s₀.heap.objs.size <= b) /\ b ≠ X.env.locals /\ (∀ x c, X.env.cells.lookup x = some c -> c ≠ b) /\ ∀ p ∈ X.pn ++ pins, p.1 ≠ b)
  (keep : ∀ b o, b ≠ X.env.locals -> b ∉ X.fs -> b ∉ ch -> s.heap.get? b = some o -> H b = none -> h'.get? b = some o)
  (slot : ∀ b o, b ≠ X.env.locals -> b ∈ X.fs -> b ∉ ch -> s.heap.get? b = some o -> H b = none -> ∃ sl, h'.get? b = some { o with slots := sl }) (free : ∀ b o, b ∉ ch -> s.heap.get? b = some o -> H b = none -> H' b = none)
  (there : ∀ b o, b ∉ ch -> s.heap.get? b = some o -> ∃ o', h'.get? b = some o')
  (tups : ∀ b xs, H b = some (.tup xs) -> H' b = some (.tup xs)) (frzs : ∀ b o u, H b = some (.frz o u) -> H' b = some (.frz o u)) (tbls : ∀ b ps, H b = some (.tbl ps) -> ∃ more, H' b = some (.tbl (ps ++ more)))
  (ns : ∀ m, s.heap.Ns X.env.locals m -> h'.Ns X.env.locals m) (hok : HOk X.prog X.w H' h') (hg : AllBare g') :
  Inv X pins σ H' { s with heap := h', gens := g', drawn := d', toks := t' } := by
 have neL : ∀ b o, X.s₀.heap.get? b = some o -> b ≠ X.env.locals := fun b o e => g1g (g1c (Heap.lt_size e) I.ok.above)
 have neC : ∀ b o, X.s₀.heap.get? b = some o -> b ∉ X.ex -> b ∉ ch := fun b o e hx hb => by
  rcases (hch b hb).1 with z | z
  ·exact hx z
  ·exact absurd (g1c (Heap.lt_size e) z) (g3c _)
 have cellK : ∀ x c, X.env.cells.lookup x = some c -> ∀ v, s.heap.IsCell c v -> h'.IsCell c v := fun x c e v ⟨o, ho, hd⟩ => by
  have nch : c ∉ ch := fun z => (hch c z).2.2.1 x c e rfl
  by_cases hc : c ∈ X.fs
  ·obtain ⟨sl, q⟩ := slot c o (I.cne x c e) hc nch ho (I.freeC x c e)
   exact ⟨_, q, hd⟩
  ·exact ⟨o, keep c o (I.cne x c e) hc nch ho (I.freeC x c e), hd⟩
 refine ⟨I.ok, I.os, hg, ⟨fun b o e n hb hx => ?_, fun b o e n hb hx => ?_, fun b o e n hx => ?_, fun b o e hx => ?_, fun b xs e => tups b xs (I.base.tups b xs e), fun b o xs e => frzs b o xs (I.base.frzs b o xs e), fun b ps e => ?_⟩, ?_, fun x c e => ?_, ?_, fun x c e => ?_, fun p hp => ?_, hok, I.len⟩
 ·exact keep b o (neL b o e) hb (neC b o e hx) (I.base.keep b o e n hb hx) (I.base.free b o e n hx)
 ·obtain ⟨sl, e1⟩ := I.base.slot b o e n hb hx
  obtain ⟨sl', e2⟩ := slot b _ (neL b o e) hb (neC b o e hx) e1 (I.base.free b o e n hx)
  exact ⟨sl', e2⟩
 ·obtain ⟨o', e1⟩ := I.base.there b o e hx
  exact free b o' (neC b o e hx) e1 (I.base.free b o e n hx)
 ·obtain ⟨o', e1⟩ := I.base.there b o e hx
  exact there b o' (neC b o e hx) e1
 ·obtain ⟨m1, e1⟩ := I.base.tbls b ps e
  obtain ⟨m2, e2⟩ := tbls b _ e1
  exact ⟨m1 ++ m2, by rw [e2, Array.append_assoc]⟩
 ·obtain ⟨m, hn, hl⟩ := I.loc
  refine ⟨m, ns m hn, fun i x v e1 e2 e3 => ?_⟩
  obtain ⟨u, r, l⟩ := hl i x v e1 e2 e3
  refine ⟨u, r, ?_⟩
  rcases l with l | ⟨k, c, e, z⟩
  ·exact .inl l
  ·exact .inr ⟨k, c, e, cellK x c e _ z⟩
 ·obtain ⟨v, z⟩ := I.cell x c e
  exact ⟨v, cellK x c e v z⟩
 ·obtain ⟨m, ⟨o, _, _, ho, _⟩, _⟩ := I.loc
  exact free _ o (fun z => (hch _ z).2.1 rfl) ho I.free
 ·obtain ⟨v, o, ho, hd⟩ := I.cell x c e
  exact free c o (fun z => (hch c z).2.2.1 x c e rfl) ho (I.freeC x c e)
 ·obtain ⟨e, n, ne, nf, d⟩ := I.pin p hp
  have nch : p.1 ∉ ch := fun z => (hch p.1 z).2.2.2 p hp rfl
  exact ⟨keep p.1 p.2 ne nf nch e n, free p.1 p.2 nch e n, ne, nf, d⟩
theorem Inv.un {t' : Nat} (I : Inv X pins σ H s) (u : Un X.fs [] H H' s.heap h') (hok : HOk X.prog X.w H' h') : Inv X pins σ H' { s with heap := h', toks := t' } := by
 obtain ⟨m, ⟨o, es, ep, ho, r⟩, _⟩ := id I.loc
 obtain ⟨sl, hL⟩ := u.any ho I.free (by simp)
 exact I.step (g' := s.gens) (d' := s.drawn) (ch := []) (fun _ z => nomatch z) (fun b o _ hb _ e n => u.keep b o e n hb (by simp)) (fun b o _ hb _ e n => u.slot b o e n hb (by simp)) (fun b o _ e n => u.free b o e n (by simp)) (fun b o _ e => u.there b o e (by simp)) u.tups u.frzs u.tbls (fun m' hm => by
  obtain ⟨o', es', ep', ho', r'⟩ := hm
  rw [ho] at ho'; cases ho'
  exact ⟨_, es', ep', hL, r'⟩) hok I.bare
theorem Inv.call {g' : Array GenState} {t' : Nat} {d' : Drawn} {ch : List Addr} (I : Inv X pins σ H s) (u : Un (frs X.stack) ch H H' s.heap h') (hok : HOk X.prog X.w H' h') (hg : AllBare g')
  (hch : ∀ b ∈ ch, (b ∈ X.ex \/ X.s₀.heap.objs.size <= b) /\ b ≠ X.env.locals /\ (∀ x c, X.env.cells.lookup x = some c -> c ≠ b) /\ ∀ p ∈ X.pn ++ pins, p.1 ≠ b) :
  Inv X pins σ H' { s with heap := h', gens := g', drawn := d', toks := t' } := by
 obtain ⟨m, ⟨o, es, ep, ho, r⟩, _⟩ := id I.loc
 obtain ⟨sl, hL⟩ := u.any ho I.free fun z => (hch _ z).2.1 rfl
 exact I.step (ch := ch) hch (fun b o hL hb hc e n => u.keep b o e n (fun z => (g0n.mp (I.stkSub b z)).elim hL hb) hc) (fun b o _ _ hc e n => u.any e n hc) (fun b o hc e n => u.free b o e n hc) (fun b o hc e => u.there b o e hc) u.tups u.frzs u.tbls (fun m' hm => by
  obtain ⟨o', es', ep', ho', r'⟩ := hm
  rw [ho] at ho'; cases ho'
  exact ⟨_, es', ep', hL, r'⟩) hok hg
theorem Inv.turned {t' : Nat} {it : Addr} (I : Inv X pins σ H s) (k : ∀ b o, b ≠ it -> s.heap.get? b = some o -> h'.get? b = some o) (hn : H it = none) (hL : it ≠ X.env.locals)
  (h1 : it ∈ X.ex \/ X.s₀.heap.objs.size <= it) (h2 : ∀ x c, X.env.cells.lookup x = some c -> c ≠ it) (h3 : ∀ p ∈ X.pn ++ pins, p.1 ≠ it) : Inv X pins σ H { s with heap := h', toks := t' } := by
 have nit : ∀ b u, H b = some u -> b ≠ it := fun b u e z => by rw [z, hn] at e; cases e
 refine I.step (g' := s.gens) (d' := s.drawn) (ch := [it]) (fun b hb => ?_) (fun b o _ _ hc e _ => k b o (fun z => hc (by simp [z])) e) (fun b o _ _ hc e _ => ⟨o.slots, k b o (fun z => hc (by simp [z])) e⟩) (fun _ _ _ _ n => n)
  (fun b o hc e => ⟨o, k b o (fun z => hc (by simp [z])) e⟩) (fun _ _ e => e) (fun _ _ _ e => e) (fun b ps e => ⟨#[], by rw [e]; simp⟩) (fun m hm => ?_) (fun b u e => ?_) I.bare
 ·have e : b = it := by simpa using hb
  subst e
  exact ⟨h1, hL, h2, h3⟩
 ·obtain ⟨o, es, ep, ho, r⟩ := hm
  exact ⟨o, es, ep, k _ o (Ne.symm hL) ho, r⟩
 ·refine (I.hok b u e).stay (fun c v hc q => k c v ?_ q) (fun _ q => q) fun _ _ q => q
  rcases hc with z | z
  ·rw [z]; exact nit b u e
  ·exact nit c _ z
theorem Inv.tok (I : Inv X pins σ H s) (t : Nat) : Inv X pins σ H { s with toks := t } := I.un (h' := s.heap) (t' := t) Un.refl I.hok
theorem Inv.kept {t' : Nat} (I : Inv X pins σ H s) (k : ∀ b u, s.heap.get? b = some u -> h'.get? b = some u) : Inv X pins σ H { s with heap := h', toks := t' } := I.un (Un.kept k) (I.hok.kept k)
theorem Inv.laid {a : Addr} {o : HO} {t' : Nat} (I : Inv X pins σ H s) (k : ∀ b u, s.heap.get? b = some u -> h'.get? b = some u) (hp : s.heap.objs.size <= a) (new : we X.prog X.w (upd H a o) h' a o) :
  Inv X pins σ (upd H a o) { s with heap := h', toks := t' } := I.un (Un.laid k hp (I.hok.fresh hp)) (I.hok.laid k hp new)
theorem Inv.write {x e : Addr} {o : HO} {t' : Nat} (I : Inv X pins σ H s) (mu : Mut (H x)) (he : e = x \/ H e = some (.own x)) (k : ∀ b u, b ≠ e -> s.heap.get? b = some u -> h'.get? b = some u) (heo : ∃ u, h'.get? e = some u)
  (new : we X.prog X.w (upd H x o) h' x o) : Inv X pins σ (upd H x o) { s with heap := h', toks := t' } := I.un (Un.write mu he k heo) (I.hok.write mu he k heo new)
theorem Inv.pins_of {pins' : List (Addr × Obj)} (I : Inv X pins σ H s) (h : ∀ p ∈ pins', s.heap.get? p.1 = some p.2 /\ H p.1 = none /\ p.1 ≠ X.env.locals /\ p.1 ∉ X.fs /\ ∀ v, p.2.data ≠ .cell v) : Inv X pins' σ H s :=
 ⟨I.ok, I.os, I.bare, I.base, I.loc, I.cell, I.free, I.freeC, fun p hp => (g1l.mp hp).elim (fun z => I.pin p (g2d _ z)) (h p), I.hok, I.len⟩
theorem Vg {N : List Str} (hN : N.Nodup) {i j : Nat} {x : Str} (a : N[i]? = some x) (b : N[j]? = some x) : i = j := by
 obtain ⟨h1, e1⟩ := g1a.mp a
 obtain ⟨h2, e2⟩ := g1a.mp b
 exact (List.getElem_inj hN).mp (e1.trans e2.symm)
theorem YM {M : Model} {A : Around} {E : Value -> Shared -> Prop} {i : Nat} {x : Str} {v : V} {u : Value} {Q : Unit -> Shared -> Prop} (I : Inv X pins σ H s) (hN : X.N.Nodup) (hi : X.N[i]? = some x) (hx : Loc X.env.scope x) (r : yV v u)
  (h : ∀ s', Inv X pins (σ.set i (some v)) H s' -> (∃ a, Heap.SameBut a s.heap s'.heap /\ (a = X.env.locals \/ X.env.cells.lookup x = some a)) -> Q () s') (hf : X.fn x = true \/ X.env.scope.names.lookup x = some .local := by first | exact .inl rfl | exact .inr rfl | assumption) : wpAny M A (storeName X.env x u) Q E s := by
 obtain ⟨m, hn, hl⟩ := id I.loc
 have hcls : (X.env.scope.kind == .class || (X.env.scope.kind == .module && X.env.locals != X.env.globals)) = false := by rw [I.ok.kind]; rfl
 have hiσ : i < σ.length := by rw [I.len]; exact (g1a.mp hi).1
 have cne := I.cne
 have tracked : ∀ {a : Addr} {h' : Heap}, (∃ o, s.heap.get? a = some o /\ H a = none) -> Heap.SameBut a s.heap h' -> HOk X.prog X.w H h' := fun {a h'} ha hs b ob e => by
  obtain ⟨_, _, hfree⟩ := ha
  refine (I.hok b ob e).stay (fun c w' hc q => (hs.2 c ?_).trans q) (fun _ q => q) fun _ _ q => q
  rintro rfl
  rcases hc with rfl | hc
  ·rw [hfree] at e; cases e
  ·rw [hfree] at hc; cases hc
 rcases hx with hk | hk
 ·refine wpAny_storeName_local hk hn (fun h' hn' hs => ?_) hcls
  obtain ⟨oL, _, _, hoL, _⟩ := id hn
  refine h _ ⟨I.ok, I.os, I.bare, ⟨fun b o e n hb hx => ?_, fun b o e n hb hx => ?_, I.base.free, fun b o e hx => ?_, I.base.tups, I.base.frzs, I.base.tbls⟩, ⟨_, hn', fun j y v' e1 e2 e3 => ?_⟩, fun y c e => ?_, I.free, I.freeC, fun p hp => ?_, tracked ⟨oL, hoL, I.free⟩ hs, by simpa using I.len⟩ ⟨_, hs, .inl rfl⟩
  ·exact (hs.2 b (g1g (g1c (Heap.lt_size e) I.ok.above))).trans (I.base.keep b o e n hb hx)
  ·obtain ⟨sl, e1⟩ := I.base.slot b o e n hb hx
   exact ⟨sl, (hs.2 b (g1g (g1c (Heap.lt_size e) I.ok.above))).trans e1⟩
  ·obtain ⟨o', e1⟩ := I.base.there b o e hx
   exact ⟨o', (hs.2 b (g1g (g1c (Heap.lt_size e) I.ok.above))).trans e1⟩
  ·by_cases hj : j = i
   ·subst hj
    rw [hi] at e1; cases e1
    rw [g2u hiσ] at e2
    cases e2
    exact ⟨u, r, .inl ⟨hk, by simp⟩⟩
   ·rw [List.getElem?_set_ne (Ne.symm hj)] at e2
    obtain ⟨u', r', q⟩ := hl j y v' e1 e2 e3
    refine ⟨u', r', ?_⟩
    rcases q with ⟨k, e⟩ | ⟨k, c, e, z⟩
    ·refine .inl ⟨k, ?_⟩
     have : y ≠ x := fun e => hj (Vg hN e1 (e ▸ hi))
     simp [this, e]
    ·exact .inr ⟨k, c, e, z.sameBut hs (cne y c e)⟩
  ·obtain ⟨w', z⟩ := I.cell y c e
   exact ⟨w', z.sameBut hs (cne y c e)⟩
  ·obtain ⟨e, n, ne, nf, d⟩ := I.pin p hp
   exact ⟨(hs.2 p.1 ne).trans e, n, ne, nf, d⟩
 ·have hfn : X.fn x = true := by
   rcases hf with z | z
   ·exact z
   ·rw [z] at hk; cases hk
  obtain ⟨c, hc⟩ := I.ok.has x (.inl hk)
  obtain ⟨w', z⟩ := I.cell x c hc
  refine wpAny_storeName_cell I.ok.kind hk hc z (fun h' hc' hs => ?_)
  obtain ⟨oc, hoc, hocd⟩ := id z
  refine h { s with heap := h' } ⟨I.ok, I.os, I.bare, ⟨fun b o e n hb hx => ?_, fun b o e n hb hx => ?_, I.base.free, fun b o e hx => ?_, I.base.tups, I.base.frzs, I.base.tbls⟩, ⟨m, hn.sameBut hs (Ne.symm (cne x c hc)), fun j y v' e1 e2 e3 => ?_⟩, fun y c' e => ?_, I.free, I.freeC, fun p hp => ?_, tracked ⟨oc, hoc, I.freeC x c hc⟩ hs, by simpa using I.len⟩ ⟨c, hs, .inr hc⟩
  ·exact (hs.2 b (g1g (g1c (Heap.lt_size e) (I.ok.cab x c hfn hc)))).trans (I.base.keep b o e n hb hx)
  ·obtain ⟨sl, e1⟩ := I.base.slot b o e n hb hx
   exact ⟨sl, (hs.2 b (g1g (g1c (Heap.lt_size e) (I.ok.cab x c hfn hc)))).trans e1⟩
  ·obtain ⟨o', e1⟩ := I.base.there b o e hx
   exact ⟨o', (hs.2 b (g1g (g1c (Heap.lt_size e) (I.ok.cab x c hfn hc)))).trans e1⟩
  ·by_cases hj : j = i
   ·subst hj
    rw [hi] at e1; cases e1
    rw [g2u hiσ] at e2
    cases e2
    exact ⟨u, r, .inr ⟨.inl hk, c, hc, hc'⟩⟩
   ·rw [List.getElem?_set_ne (Ne.symm hj)] at e2
    obtain ⟨u', r', q⟩ := hl j y v' e1 e2 e3
    refine ⟨u', r', ?_⟩
    rcases q with q | ⟨k, c', e, z'⟩
    ·exact .inl q
    ·refine .inr ⟨k, c', e, z'.sameBut hs ?_⟩
     rintro rfl
     exact hj (Vg hN e1 (I.ok.inj _ _ _ e hc ▸ hi))
  ·by_cases hcc : c' = c
   ·subst hcc; exact ⟨_, hc'⟩
   ·obtain ⟨w2, z2⟩ := I.cell y c' e
    exact ⟨w2, z2.sameBut hs hcc⟩
  ·obtain ⟨e, n, ne, nf, d⟩ := I.pin p hp
   refine ⟨(hs.2 p.1 ?_).trans e, n, ne, nf, d⟩
   intro q
   rw [q, hoc] at e
   have q' : oc = p.2 := g2h.inj e
   exact d w' (by rw [<- q']; exact hocd)
theorem Z4 {M : Model} {A : Around} {E : Value -> Shared -> Prop} {i : Nat} {x : Str} {v : V} {u : Value} {Q : Unit -> Shared -> Prop} (I : Inv X pins σ H s) (hN : X.N.Nodup) (hi : X.N[i]? = some x) (hx : Loc X.env.scope x) (r : yV v u)
  (h : ∀ s', Inv X pins (σ.set i (some v)) H s' -> Q () s') (hf : X.fn x = true \/ X.env.scope.names.lookup x = some .local := by first | exact .inl rfl | exact .inr rfl | assumption) : wpAny M A (storeName X.env x u) Q E s :=
 YM I hN hi hx r (fun s' I' _ => h s' I') hf
theorem Inv.call' {s' : Shared} {ch : List Addr} (I : Inv X pins σ H s) (ho : s'.os = s.os) (u : Un (frs X.stack) ch H H' s.heap s'.heap) (hok : HOk X.prog X.w H' s'.heap) (hg : AllBare s'.gens)
  (hch : ∀ b ∈ ch, (b ∈ X.ex \/ X.s₀.heap.objs.size <= b) /\ b ≠ X.env.locals /\ (∀ x c, X.env.cells.lookup x = some c -> c ≠ b) /\ ∀ p ∈ X.pn ++ pins, p.1 ≠ b) : Inv X pins σ H' s' := by
 obtain ⟨h', g', d', t', o'⟩ := s'
 have e : o' = s.os := ho
 subst e
 exact I.call (g' := g') (t' := t') (d' := d') u hok hg hch
end
abbrev XK := Value -> Option Addr -> Hp -> Prop
abbrev St := List (Option V)
abbrev VK := V -> Hp -> Prop
abbrev TE := St -> Hp -> VK -> Prop
abbrev TT := St -> Hp -> (Bool -> Hp -> Prop) -> Prop
abbrev TA := St -> Hp -> (List V -> Hp -> Prop) -> Prop
structure Ends where
 nx : St -> Hp -> Prop
 rt : VK
 bk : St -> Hp -> Prop := fun _ _ => False
 ct : St -> Hp -> Prop := fun _ _ => False
abbrev TS := Ends -> St -> Hp -> Prop
def EP (X : Cx) (pins : List (Addr × Obj)) (σ : St) (Q : VK) (u : Value) (s' : Shared) : Prop := ∃ v H', Inv X pins σ H' s' /\ yV v u /\ Q v H'
def TP (X : Cx) (pins : List (Addr × Obj)) (σ : St) (Q : Bool -> Hp -> Prop) (b : Bool) (s' : Shared) : Prop := ∃ H', Inv X pins σ H' s' /\ Q b H'
def AP (X : Cx) (pins : List (Addr × Obj)) (σ : St) (Q : List V -> Hp -> Prop) (us : List Value) (s' : Shared) : Prop := ∃ vs H', Inv X pins σ H' s' /\ yP vs us /\ Q vs H'
def SP (X : Cx) (pins : List (Addr × Obj)) (D : Ends) (f : Flow) (s' : Shared) : Prop :=
 match f with
 | .next => ∃ σ' H', Inv X pins σ' H' s' /\ D.nx σ' H'
 | .brk => ∃ σ' H', Inv X pins σ' H' s' /\ D.bk σ' H'
 | .cont => ∃ σ' H', Inv X pins σ' H' s' /\ D.ct σ' H'
 | .ret u => ∃ v σ' H', Inv X pins σ' H' s' /\ yV v u /\ D.rt v H'
def PE (X : Cx) (e : Expr) (t : TE) : Prop :=
 ∀ (pins : List (Addr × Obj)) (s : Shared) (σ : St) (H : Hp) (Q : VK), Inv X pins σ H s -> t σ H Q -> wpAny (model X.prog X.w) X.A (eval e X.env) (EP X pins σ Q) X.xe s
def PT (X : Cx) (e : Expr) (t : TT) : Prop :=
 ∀ (pins : List (Addr × Obj)) (s : Shared) (σ : St) (H : Hp) (Q : Bool -> Hp -> Prop), Inv X pins σ H s -> t σ H Q -> wpAny (model X.prog X.w) X.A (isTrue e X.env (eval e X.env)) (TP X pins σ Q) X.xe s
def PW (X : Cx) (e : Expr) (t : TT) : Prop :=
 ∀ (whole : Sem Value) (pins : List (Addr × Obj)) (s : Shared) (σ : St) (H : Hp) (Q : Bool -> Hp -> Prop), Inv X pins σ H s -> t σ H Q -> wpAny (model X.prog X.w) X.A (isTrue e X.env whole) (TP X pins σ Q) X.xe s
theorem PW.pt {X : Cx} {e : Expr} {t : TT} (h : PW X e t) : PT X e t := h _
def PA (X : Cx) (es : List Expr) (t : TA) : Prop :=
 ∀ (pos : Pos) (pins : List (Addr × Obj)) (s : Shared) (σ : St) (H : Hp) (Q : List V -> Hp -> Prop), Inv X pins σ H s -> t σ H Q -> wpAny (model X.prog X.w) X.A (spliced (backTo pos (starEach es X.env))) (AP X pins σ Q) X.xe s
def PS (X : Cx) (st : Stmt) (t : TS) : Prop :=
 ∀ (pins : List (Addr × Obj)) (s : Shared) (σ : St) (H : Hp) (D : Ends), Inv X pins σ H s -> t D σ H -> wpAny (model X.prog X.w) X.A (exec st X.env) (SP X pins D) X.xe s
def PSs (X : Cx) (st : List Stmt) (t : TS) : Prop :=
 ∀ (pins : List (Addr × Obj)) (s : Shared) (σ : St) (H : Hp) (D : Ends), Inv X pins σ H s -> t D σ H -> wpAny (model X.prog X.w) X.A (execs st X.env) (SP X pins D) X.xe s
theorem thn {α : Type} {t : Sem α} {Q Q' : α -> Shared -> Prop} {M : Model} {A : Around} {E : Value -> Shared -> Prop} {s : Shared} (h : wpAny M A t Q E s) (hQ : ∀ a s, Q a s -> Q' a s) : wpAny M A t Q' E s := wpAny_mono h hQ fun _ _ x => x
section
variable {X : Cx}
theorem bin {a b : Expr} {ta tb : TE} (ha : PE X a ta) (hb : PE X b tb) {pins : List (Addr × Obj)} {s : Shared} {σ : St} {H : Hp} {R : V -> V -> Hp -> Prop} (I : Inv X pins σ H s) (h : ta σ H fun x H1 => tb σ H1 fun y H2 => R x y H2)
  {α : Type} {Q : α -> Shared -> Prop} {f : Value -> Value -> Sem α}
  (hf : ∀ v u s2 x y H2, Inv X pins σ H2 s2 -> yV x v -> yV y u -> R x y H2 -> wpAny (model X.prog X.w) X.A (f v u) Q X.xe s2) :
  wpAny (model X.prog X.w) X.A (eval a X.env) (fun v s₁ => wpAny (model X.prog X.w) X.A (eval b X.env) (fun u s₂ => wpAny (model X.prog X.w) X.A (f v u) Q X.xe s₂) X.xe s₁) X.xe s := by
 refine thn (ha pins s σ H _ I h) fun v s1 ⟨x, H1, I1, r1, q1⟩ => ?_
 refine thn (hb pins s1 σ H1 _ I1 q1) fun u s2 ⟨y, H2, I2, r2, q2⟩ => ?_
 exact hf v u s2 x y H2 I2 r1 r2 q2
def NJ (i : Nat) : TE := fun σ H Q => ∃ v, σ[i]? = some (some v) /\ Q v H
def tC (v : V) : TE := fun _ H Q => Q v H
theorem uj {i : Nat} {x : Str} {pos : Pos} (hN : X.N[i]? = some x) (hv : Vis X.env.scope x) (hd : (x == ("__debug__" : Str)) = false := by decide) (hcd : (x == ("__classdict__" : Str)) = false := by decide) : PE X (.Name x pos) (NJ i) := by
 intro pins s σ H Q I h
 obtain ⟨v, e, h⟩ := h
 obtain ⟨m, hn, hl⟩ := I.loc
 obtain ⟨u, r, l⟩ := hl i x v hN e hv
 have fin : EP X pins σ Q u s := ⟨v, H, I, r, h⟩
 rcases l with ⟨hk, hm⟩ | ⟨hk, c, hc, hcell⟩
 ·exact wpAny_Name (wpAny_loadName_local I.ok.kind hk hn hm fin) hd
 ·rcases hk with hk | hk
  ·exact wpAny_Name (wpAny_loadName_cell I.ok.kind hk hc hcell fin) hd
  ·exact wpAny_Name (wpAny_loadName_free I.ok.kind hk hc hcell fin hcd) hd
theorem D5 {i j pos} : PE X (.Constant (.int i) j pos) (tC (.int i)) := fun _ _ _ H _ I h => wpAny_Constant_int ⟨.int i, H, I.tok _, ⟨_, rfl⟩, h⟩
theorem Nc {b j pos} : PE X (.Constant (.bool b) j pos) (tC (.bl b)) := fun _ _ _ H _ I h => Constant_bool ⟨.bl b, H, I, rfl, h⟩
theorem D3 {j pos} : PE X (.Constant .none j pos) (tC .non) := fun _ _ _ H _ I h => Constant_none ⟨.non, H, I, rfl, h⟩
theorem DV {x j pos} : PE X (.Constant (.str x) j pos) (tC (.str x)) := fun _ _ _ H _ I h => Calls.Constant_str ⟨.str x, H, I.tok _, ⟨_, rfl⟩, h⟩
def Gl (X : Cx) (x : Str) : Prop := X.env.kindOf x = some .globalImplicit
theorem QR {E : Value -> Shared -> Prop} {pins : List (Addr × Obj)} {s : Shared} {σ : St} {H : Hp} {x : Str} {u : Value} {pos : Pos} {Q : Value -> Shared -> Prop} (I : Inv X pins σ H s) (hg : Gl X x) (hm : X.mg x = some u) (h : Q u s)
  (hd : (x == ("__debug__" : Str)) = false := by decide) : wpAny (model X.prog X.w) X.A (eval (.Name x pos) X.env) Q E s :=
 Calls.Name_function_global I.ok.kind hg (Calls.loadGlobal_global (by rw [I.ok.glob]; exact I.mod.glob.keeps I.bk) hm h) hd
theorem kq {E : Value -> Shared -> Prop} {pins : List (Addr × Obj)} {s : Shared} {σ : St} {H : Hp} {x : Str} {u : Value} {pos : Pos} {Q : Value -> Shared -> Prop} (I : Inv X pins σ H s) (hg : Gl X x) (hm : X.mg x = none) (hv : bootBuiltins x = some u) (h : Q u s)
  (hn : x ≠ "__name__" := by decide) (hd : (x == ("__debug__" : Str)) = false := by decide) : wpAny (model X.prog X.w) X.A (eval (.Name x pos) X.env) Q E s := by
 obtain ⟨mb, h1, h2⟩ := I.mod.blt
 exact Calls.Name_function_global I.ok.kind hg (Calls.loadGlobal_builtin (by rw [I.ok.glob]; exact I.mod.glob.keeps I.bk) hm (by rw [I.ok.blt]; exact h1.keeps I.bk) ((h2 x hn).trans hv) h) hd
theorem Ye {x : Str} {v : V} {u : Value} {pos : Pos} (hg : Gl X x) (hm : X.mg x = some u) (r : yV v u) (hd : (x == ("__debug__" : Str)) = false := by decide) : PE X (.Name x pos) (tC v) :=
 fun _ _ _ H _ I h => QR I hg hm ⟨v, H, I, r, h⟩ hd
theorem Bn {x : Str} {v : V} {u : Value} {pos : Pos} (hg : Gl X x) (hm : X.mg x = none) (hv : bootBuiltins x = some u) (r : yV v u) (hn : x ≠ "__name__" := by decide) (hd : (x == ("__debug__" : Str)) = false := by decide) : PE X (.Name x pos) (tC v) :=
 fun _ _ _ H _ I h => kq I hg hm hv ⟨v, H, I, r, h⟩ hn hd
variable {a b : Expr} {ta tb : TE} {pos : Pos}
def PC (X : Cx) (op : CmpOp) (a b : Expr) (t : TE) : Prop :=
 ∀ (pins : List (Addr × Obj)) (s : Shared) (σ : St) (H : Hp) (Q : VK), Inv X pins σ H s -> t σ H Q →
  wpAny (model X.prog X.w) X.A (eval a X.env) (fun v s₁ => wpAny (model X.prog X.w) X.A (eval b X.env) (fun u s₂ => wpAny (model X.prog X.w) X.A (compareOp op v u) (EP X pins σ Q) X.xe s₂) X.xe s₁) X.xe s
theorem K5 (b : Expr) {op : CmpOp} (h : op ≠ .In) (h2 : op ≠ .NotIn) : behindInMarks op b = false := by
 have e1 : (op == CmpOp.In) = false := by cases op <;> first | rfl | exact absurd rfl h
 have e2 : (op == CmpOp.NotIn) = false := by cases op <;> first | rfl | exact absurd rfl h2
 cases b <;> simp [behindInMarks, e1, e2]
def tB (t : TE) : TT := fun σ H Q => t σ H fun x H1 => ∃ c, x = .bl c /\ Q c H1
theorem N0 {op : CmpOp} {t : TE} (h : PC X op a b t) (h1 : behindInMarks op b = false := by first | exact K5 _ (by decide) (by decide) | rfl) : PT X (.Compare a [op] [b] pos) (tB t) := by
 intro pins s σ H Q I hw
 refine wpAny_isTrue_Compare1 (thn (h pins s σ H _ I hw) fun v s1 h1 => thn h1 fun u s2 h2 => thn h2 fun c s3 ⟨x, H1, I1, r1, q1⟩ => ?_) h1
 obtain ⟨d, rfl, q⟩ := q1
 cases r1
 exact wpAny_truthy_bool ⟨H1, I1, q⟩
theorem DD {e : Expr} {t : TE} (h : PE X e t) (he : ∀ whole, isTrue e X.env whole = (do let v ← whole; standAt e.pos; holding [v] (truthy v)) := by intro _; rfl) : PT X e (tB t) := by
 intro pins s σ H Q I hw
 refine isTrue_plain (thn (h pins s σ H _ I hw) fun v s1 ⟨x, H1, I1, r1, q1⟩ => ?_) (he _)
 obtain ⟨d, rfl, q⟩ := q1
 cases r1
 exact wpAny_truthy_bool ⟨H1, I1, q⟩
variable {tA tB' : TT} {jU : List Expr}
def Pg (t u : TT) : TT := fun σ H Q => t σ H fun c H1 => if c = true then u σ H1 Q else Q false H1
def tOr (t u : TT) : TT := fun σ H Q => t σ H fun c H1 => if c = true then Q true H1 else u σ H1 Q
def Pa (t : TT) : TT := fun σ H Q => t σ H fun c H1 => Q (!c) H1
theorem Bb (ha : PT X a tA) : PW X (.BoolOp .And [a] pos) tA := by
 intro wh pins s σ H Q I h
 refine isTrue_and (thn (ha pins s σ H Q I h) fun c s1 e => ?_)
 cases c with
 | true => exact isTrue_and_nil e
 | false => exact e
theorem DB (ha : PT X a tA) : PW X (.BoolOp .Or [a] pos) tA := by
 intro wh pins s σ H Q I h
 refine isTrue_or (thn (ha pins s σ H Q I h) fun c s1 e => ?_)
 cases c with
 | false => exact isTrue_or_nil e
 | true => exact e
theorem DC (ha : PT X a tA) (hb : PW X (.BoolOp .And (b :: jU) pos) tB') : PW X (.BoolOp .And (a :: b :: jU) pos) (Pg tA tB') := by
 intro wh pins s σ H Q I h
 refine isTrue_and (thn (ha pins s σ H _ I h) fun c s1 ⟨H1, I1, q1⟩ => ?_)
 cases c with
 | true => exact hb wh pins s1 σ H1 Q I1 q1
 | false => exact ⟨H1, I1, q1⟩
theorem M8 (ha : PT X a tA) (hb : PW X (.BoolOp .Or (b :: jU) pos) tB') : PW X (.BoolOp .Or (a :: b :: jU) pos) (tOr tA tB') := by
 intro wh pins s σ H Q I h
 refine isTrue_or (thn (ha pins s σ H _ I h) fun c s1 ⟨H1, I1, q1⟩ => ?_)
 cases c with
 | true => exact ⟨H1, I1, q1⟩
 | false => exact hb wh pins s1 σ H1 Q I1 q1
theorem DF (ha : PT X a tA) : PT X (.UnaryOp .Not a pos) (Pa tA) := by
 intro pins s σ H Q I h
 exact isTrue_not (ha pins s σ H (fun c H1 => Q (!c) H1) I h)
def MQ (ta tb : TE) : TE := fun σ H Q => ta σ H fun x H1 => ∃ c, x = .bl c /\ if c = true then tb σ H1 Q else Q (.bl false) H1
def ML (ta : TE) : TE := fun σ H Q => ta σ H fun x H1 => ∃ c, x = .bl c /\ Q (.bl (!c)) H1
theorem DZ {op} {t : TE} (h : PE X a t) : PE X (.BoolOp op [a] pos) t := fun pins s σ H Q I hw => BoolOp_one (h pins s σ H Q I hw)
theorem D7 (ha : PE X a ta) (hb : PE X (.BoolOp .And (b :: jU) pos) tb) : PE X (.BoolOp .And (a :: b :: jU) pos) (MQ ta tb) := by
 intro pins s σ H Q I h
 refine BoolOp_and (thn (ha pins s σ H _ I h) fun v s1 ⟨x, H1, I1, r1, q1⟩ => ?_)
 obtain ⟨c, rfl, q1⟩ := q1
 cases r1
 refine wpAny_truthy_bool ?_
 cases c with
 | true => exact hb pins s1 σ H1 Q I1 q1
 | false => exact ⟨.bl false, H1, I1, rfl, q1⟩
theorem D0 (ha : PE X a ta) : PE X (.UnaryOp .Not a pos) (ML ta) := by
 intro pins s σ H Q I h
 refine UnaryOp_ (thn (ha pins s σ H _ I h) fun v s1 ⟨x, H1, I1, r1, q1⟩ => ?_)
 obtain ⟨c, rfl, q1⟩ := q1
 cases r1
 exact not_of (wpAny_truthy_bool ⟨.bl (!c), H1, I1, rfl, q1⟩)
def tIf (t : TT) (ta tb : TE) : TE := fun σ H Q => t σ H fun c H1 => if c = true then ta σ H1 Q else tb σ H1 Q
theorem KI {c : Expr} (hc : PT X c tA) (ha : PE X a ta) (hb : PE X b tb) : PE X (.IfExp c a b pos) (tIf tA ta tb) := by
 intro pins s σ H Q I h
 refine wpAny_IfExp (thn (hc pins s σ H _ I h) fun d s1 ⟨H1, I1, q1⟩ => ?_)
 cases d with
 | true => exact ha pins s1 σ H1 Q I1 q1
 | false => exact hb pins s1 σ H1 Q I1 q1
end
def SqL (K : W.Frag) (H : Hp) (a : Addr) (xs : List V) : Prop :=
 Rd H a (.lst xs) ∨
  ∃ (o : Obj) (its : Array Value) (n : Nat), K.lookup a = some o /\ o.cls = .type "list" /\ o.dict = none /\ o.data = .seq its n /\ its.size <= sizeLine /\ yP xs its.toList
def SqT (K : W.Frag) (H : Hp) (a : Addr) (xs : List V) : Prop :=
 Rd H a (.tup xs) ∨
  ∃ (o : Obj) (its : Array Value) (n : Nat), K.lookup a = some o /\ o.cls = .type "tuple" /\ o.data = .seq its n /\ its.size <= sizeLine /\ yP xs its.toList
def PH : Value -> Option V
 | .none => some .non
 | .bool b => some (.bl b)
 | .int i _ => some (.int i)
 | .str x _ => some (.str x)
 | .bytes b _ => some (.byt b)
 | .float b _ => some (.flt b)
 | .ref a => some (.ref a)
 | .type n => some (.ty n)
 | _ => none
theorem yV.abs {x : V} {u : Value} (r : yV x u) : PH u = some x := by
 cases x with
 | non => cases r; rfl
 | bl _ => cases r; rfl
 | int _ => obtain ⟨t, rfl⟩ := r; rfl
 | str _ => obtain ⟨t, rfl⟩ := r; rfl
 | byt _ => obtain ⟨t, rfl⟩ := r; rfl
 | flt _ => obtain ⟨t, rfl⟩ := r; rfl
 | ref _ => cases r; rfl
 | ty _ => cases r; rfl
theorem yV.inj {x y : V} {u : Value} (r : yV x u) (q : yV y u) : x = y := g2h.inj (r.abs.symm.trans q.abs)
theorem yP.inj : ∀ {xs ys : List V} {us : List Value}, yP xs us -> yP ys us -> xs = ys
 | _, _, _, .nil, .nil => rfl
 | _, _, _, .cons r t, .cons r' t' => by rw [r.inj r', yP.inj t t']
section
variable {X : Cx} {pins : List (Addr × Obj)} {σ : St} {H : Hp} {s : Shared} {a : Addr} {xs ys : List V}
theorem SqL.of {K : W.Frag} (h : H a = some (.lst xs)) : SqL K H a xs := .inl (.inl h)
theorem SqT.of {K : W.Frag} (h : H a = some (.tup xs)) : SqT K H a xs := .inl (.inl h)
theorem Inv.list (I : Inv X pins σ H s) (h : SqL X.K H a xs) : ∃ its : List Value, yP xs its /\ PlainL s.heap a its.toArray /\ xs.length <= sizeLine := by
 rcases h with h | ⟨o, its, n, hk, hc, hd, hs, hz, r⟩
 ·obtain ⟨z, its, n, r, e⟩ := h.ok I.hok
  exact ⟨its, r, ⟨_, n, e, rfl, rfl, rfl⟩, z⟩
 ·refine ⟨its.toList, r, ⟨o, n, I.kIn a o hk, hc, hd, by simpa using hs⟩, ?_⟩
  have e := r.length
  simp only [Array.length_toList] at e
  omega
theorem Inv.tuple (I : Inv X pins σ H s) (h : SqT X.K H a xs) : ∃ its : List Value, yP xs its /\ IsTup s.heap a its.toArray /\ xs.length <= sizeLine := by
 rcases h with h | ⟨o, its, n, hk, hc, hs, hz, r⟩
 ·obtain ⟨z, its, r, p⟩ := h.ok I.hok
  exact ⟨its, r, p, z⟩
 ·refine ⟨its.toList, r, ⟨o, I.kIn a o hk, hc, n, by simpa using hs⟩, ?_⟩
  have e := r.length
  simp only [Array.length_toList] at e
  omega
theorem Inv.list_inj (I : Inv X pins σ H s) (h : SqL X.K H a xs) (h' : SqL X.K H a ys) : xs = ys := by
 obtain ⟨its, r, ⟨o, n, e, _, _, d⟩, _⟩ := I.list h
 obtain ⟨its', r', ⟨o', n', e', _, _, d'⟩, _⟩ := I.list h'
 rw [e] at e'; cases e'
 rw [d] at d'
 injection d' with d1 _
 have : its = its' := by simpa using congrArg Array.toList d1
 subst this
 exact r.inj r'
theorem Inv.tuple_inj (I : Inv X pins σ H s) (h : SqT X.K H a xs) (h' : SqT X.K H a ys) : xs = ys := by
 obtain ⟨its, r, ⟨o, e, _, n, d⟩, _⟩ := I.tuple h
 obtain ⟨its', r', ⟨o', e', _, n', d'⟩, _⟩ := I.tuple h'
 rw [e] at e'; cases e'
 rw [d] at d'
 injection d' with d1 _
 have : its = its' := by simpa using congrArg Array.toList d1
 subst this
 exact r.inj r'
end
abbrev Cx.wish (X : Cx) (E : Value -> Shared -> Prop) : Cx := { X with xe := E }
abbrev Cx.nox (X : Cx) : Cx := X.wish fun _ _ => False
theorem Cx.Ok.wish {X : Cx} (ok : X.Ok) (E : Value -> Shared -> Prop) : (X.wish E).Ok :=
 ⟨ok.mod, ok.kind, ok.glob, ok.blt, ok.above, ok.inj, ok.has, ok.cab, ok.hd, ok.frames, ok.stk, ok.exf, ok.bs, ok.bsz, ok.noex, ok.exfs, ok.funs, ok.frf⟩
theorem Cx.Ok.unwish {X : Cx} {E : Value -> Shared -> Prop} (ok : (X.wish E).Ok) : X.Ok :=
 ⟨ok.mod, ok.kind, ok.glob, ok.blt, ok.above, ok.inj, ok.has, ok.cab, ok.hd, ok.frames, ok.stk, ok.exf, ok.bs, ok.bsz, ok.noex, ok.exfs, ok.funs, ok.frf⟩
section
variable {X : Cx} {pins : List (Addr × Obj)} {σ : St} {H : Hp} {s : Shared} {E : Value -> Shared -> Prop}
theorem Inv.wish (I : Inv X pins σ H s) (E : Value -> Shared -> Prop) : Inv (X.wish E) pins σ H s := ⟨I.ok.wish E, I.os, I.bare, I.base, I.loc, I.cell, I.free, I.freeC, I.pin, I.hok, I.len⟩
theorem Inv.unwish (I : Inv (X.wish E) pins σ H s) : Inv X pins σ H s := ⟨I.ok.unwish, I.os, I.bare, I.base, I.loc, I.cell, I.free, I.freeC, I.pin, I.hok, I.len⟩
theorem SP.unwish {D : Ends} {f : Flow} {s' : Shared} (h : SP (X.wish E) pins D f s') : SP X pins D f s' := by
 cases f with
 | next => obtain ⟨σ', H', I, q⟩ := h; exact ⟨σ', H', I.unwish, q⟩
 | brk => obtain ⟨σ', H', I, q⟩ := h; exact ⟨σ', H', I.unwish, q⟩
 | cont => obtain ⟨σ', H', I, q⟩ := h; exact ⟨σ', H', I.unwish, q⟩
 | ret u => obtain ⟨v, σ', H', I, r, q⟩ := h; exact ⟨v, σ', H', I.unwish, r, q⟩
theorem PSs.nox {st : List Stmt} {t : TS} (h : PSs X.nox st t) : PSs X st t := fun pins s σ H D I hw =>
 wpAny_mono (h pins s σ H D (I.wish _) hw) (fun _ _ q => q.unwish) fun _ _ z => False.elim z
end
section
variable {X : Cx} {st : Stmt} {jU : List Stmt} {t u : TS} {e : Expr} {te : TE} {pos : Pos}
def MM : TS := fun D σ H => D.nx σ H
def N8 (t u : TS) : TS := fun D σ H => t { D with nx := u D } σ H
theorem Bd : PSs X [] MM := fun _ _ σ H _ I h => wpAny_execs_nil ⟨σ, H, I, h⟩
theorem W7 (h1 : PS X st t) (h2 : PSs X jU u) : PSs X (st :: jU) (N8 t u) := by
 intro pins s σ H D I h
 refine wpAny_execs_cons (thn (h1 pins s σ H { D with nx := u D } I h) fun f s1 q => ?_)
 cases f with
 | next =>
  obtain ⟨σ', H', I', q⟩ := q
  exact h2 pins s1 σ' H' D I' q
 | ret v => exact q
 | brk => exact q
 | cont => exact q
theorem X5 (h1 : PS X st t) : PSs X [st] t := by
 intro pins s σ H D I h
 refine wpAny_execs_cons (thn (h1 pins s σ H D I h) fun f s1 q => ?_)
 cases f with
 | next => exact wpAny_execs_nil q
 | ret v => exact q
 | brk => exact q
 | cont => exact q
theorem Inv.quiet {pins : List (Addr × Obj)} {σ : St} {H : Hp} {s : Shared} (I : Inv X pins σ H s) : interactive X.env = false := by simp [interactive, I.ok.kind]
def MN (te : TE) : TS := fun D σ H => te σ H fun _ H1 => D.nx σ H1
theorem Qi (he : PE X e te) (hs : swapsWith e none pos.line X.env = pure false := by rfl) : PS X (.Expr e pos) (MN te) := by
 intro pins s σ H D I h
 exact wpAny_Expr_any (thn (he pins s σ H _ I h) fun v s1 ⟨x, H1, I1, r1, q1⟩ => ⟨σ, H1, I1, q1⟩) I.quiet hs
def N9 (te : TE) : TS := fun D σ H => te σ H D.rt
theorem DH (he : PE X e te) : PS X (.Return (some e) pos) (N9 te) := by
 intro pins s σ H D I h
 exact wpAny_Return_some (thn (he pins s σ H _ I h) fun v s1 ⟨x, H1, I1, r1, q1⟩ => ⟨x, σ, H1, I1, r1, q1⟩)
def Pd (c : TT) (t u : TS) : TS := fun D σ H => c σ H fun b H1 => if b = true then t D σ H1 else u D σ H1
theorem DK {c : Expr} {a b : List Stmt} {tc : TT} (hc : PT X c tc) (ha : PSs X a t) (hb : PSs X b u) : PS X (.If c a b pos) (Pd tc t u) := by
 intro pins s σ H D I h
 refine wpAny_If (thn (hc pins s σ H _ I h) fun d s1 ⟨H1, I1, q1⟩ => ?_)
 cases d with
 | true => exact ha pins s1 σ H1 D I1 q1
 | false => exact hb pins s1 σ H1 D I1 q1
end
abbrev TG := V -> St -> Hp -> (St -> Hp -> Prop) -> Prop
abbrev TGs := List V -> St -> Hp -> (St -> Hp -> Prop) -> Prop
def PG (X : Cx) (target : Expr) (t : TG) : Prop :=
 ∀ (pins : List (Addr × Obj)) (s : Shared) (σ : St) (H : Hp) (v : V) (u : Value) (Q : St -> Hp -> Prop), Inv X pins σ H s -> yV v u -> t v σ H Q →
  wpAny (model X.prog X.w) X.A (assign target X.env u) (fun _ s' => ∃ σ' H', Inv X pins σ' H' s' /\ Q σ' H') X.xe s
def PGs (X : Cx) (ts : List Expr) (t : TGs) : Prop :=
 ∀ (pins : List (Addr × Obj)) (s : Shared) (σ : St) (H : Hp) (vs : List V) (us : List Value) (Q : St -> Hp -> Prop), Inv X pins σ H s -> yP vs us -> t vs σ H Q →
  wpAny (model X.prog X.w) X.A (assignInOrder ((assignEach ts X.env).map (·.2)) us) (fun _ s' => ∃ σ' H', Inv X pins σ' H' s' /\ Q σ' H') X.xe s
abbrev NH := V -> V -> V -> Hp -> (Hp -> Prop) -> Prop
def N5 (X : Cx) (t : NH) : Prop :=
 ∀ (pins : List (Addr × Obj)) (s : Shared) (σ : St) (H : Hp) (o i v : V) (ov iv u : Value) (Q : Hp -> Prop), Inv X pins σ H s -> yV o ov -> yV i iv -> yV v u -> t o i v H Q →
  wpAny (model X.prog X.w) X.A (setItem ov iv u) (fun _ s' => ∃ H', Inv X pins σ H' s' /\ Q H') X.xe s
abbrev TIp := V -> V -> Hp -> VK -> Prop
def PIp (X : Cx) (op : Operator) (t : TIp) : Prop :=
 ∀ (pins : List (Addr × Obj)) (s : Shared) (σ : St) (H : Hp) (x y : V) (v u : Value) (Q : VK), Inv X pins σ H s -> yV x v -> yV y u -> t x y H Q →
  wpAny (model X.prog X.w) X.A (inplaceOp op v u) (EP X pins σ Q) X.xe s
section
variable {X : Cx} {pos : Pos}
def FQ (i : Nat) : TG := fun v σ H Q => Q (σ.set i (some v)) H
theorem Bj {i : Nat} {x : Str} (hN : X.N.Nodup) (hi : X.N[i]? = some x) (hx : Loc X.env.scope x) (hf : X.fn x = true \/ X.env.scope.names.lookup x = some .local := by first | exact .inl rfl | exact .inr rfl | assumption) : PG X (.Name x pos) (FQ i) := by
 intro pins s σ H v u Q I r h
 exact wpAny_assign_Name (Z4 I hN hi hx r (fun s' I' => ⟨_, H, I', h⟩) hf)
def PB : TGs := fun vs σ H Q => vs = [] /\ Q σ H
def Nt (t : TG) (u : TGs) : TGs := fun vs σ H Q => ∃ v r, vs = v :: r /\ t v σ H fun σ' H' => u r σ' H' Q
theorem Bi : PGs X [] PB := by
 intro pins s σ H vs us Q I r h
 obtain ⟨e, h⟩ := h
 subst e
 cases r
 exact assignInOrder_nil ⟨σ, H, I, h⟩
theorem KG {e : Expr} {es : List Expr} {t : TG} {u : TGs} (h1 : PG X e t) (h2 : PGs X es u)
  (hs : (assignEach (e :: es) X.env).map (·.2) = assign e X.env :: (assignEach es X.env).map (·.2) := by rfl) : PGs X (e :: es) (Nt t u) := by
 intro pins s σ H vs us Q I r h
 obtain ⟨v, vr, e1, h⟩ := h
 subst e1
 cases r with
 | cons r rr =>
  rw [hs]
  refine assignInOrder_cons (thn (h1 pins s σ H _ _ _ I r h) fun _ s1 ⟨σ1, H1, I1, q1⟩ => ?_)
  exact h2 pins s1 σ1 H1 _ _ Q I1 rr q1
def Py (K : W.Frag) (n : Nat) (t : TGs) : TG := fun v σ H Q => ∃ a xs, v = .ref a /\ SqT K H a xs /\ xs.length = n /\ t xs σ H Q
theorem DO {es : List Expr} {k : Nat} {t : TGs} {n : Nat} (hc : X.calm = true) (h : PGs X es t)
  (hn : (assignEach es X.env).length = n := by rfl) (hst : (assignEach es X.env).findIdx? (·.1) = none := by rfl) : PG X (.Tuple es k pos) (Py X.K n t) := by
 intro pins s σ H v u Q I r hw
 obtain ⟨a, xs, e1, hq, hl, hw⟩ := hw
 subst e1
 cases r
 obtain ⟨its, rv, ht, hz⟩ := I.tuple hq
 refine assign_Tuple_tuple (I.ok.hd hc) ht (by simp [hn, <- hl, rv.length]) hst fun h' hx => ?_
 have I1 : Inv X pins σ H { s with heap := h' } := I.kept (t' := s.toks) fun b o e => hx b o (g1g (Heap.lt_size e)) e
 exact h pins _ σ H xs _ Q I1 (by simpa using rv) hw
def Pz (to ti : TE) (t : NH) : TG := fun v σ H Q => to σ H fun o H1 => ti σ H1 fun i H2 => t o i v H2 fun H3 => Q σ H3
theorem DU {o i : Expr} {to ti : TE} {t : NH} (ho : PE X o to) (hi : PE X i ti) (hs : N5 X t)
  (ha : ∀ v, assign (.Subscript o i pos) X.env v = (do
   let ov ← holding [v] (eval o X.env)
   let iv ← holding [v, ov] (eval i X.env)
   standAt pos
   holding [v, ov, iv] (setItem ov iv v)
   release [v, ov, iv] []) := by intro _; rfl) : PG X (.Subscript o i pos) (Pz to ti t) := by
 intro pins s σ H v u Q I r h
 rw [ha]
 refine wpAny_bind (wpAny_holding (thn (ho pins s σ H _ I h) fun ov s1 ⟨x, H1, I1, r1, q1⟩ => ?_))
 refine wpAny_bind (wpAny_holding (thn (hi pins s1 σ H1 _ I1 q1) fun iv s2 ⟨y, H2, I2, r2, q2⟩ => ?_))
 refine wpAny_bind (wpAny_standAt (wpAny_bind (wpAny_holding (thn (hs pins s2 σ H2 x y v ov iv u _ I2 r1 r2 r q2) fun _ s3 ⟨H3, I3, q3⟩ => ?_))))
 exact wpAny_release ⟨σ, H3, I3, q3⟩
def NK (te : TE) (g : TG) : TS := fun D σ H => te σ H fun x H1 => g x σ H1 D.nx
theorem Ha {tg e : Expr} {te : TE} {g : TG} (he : PE X e te) (hg : PG X tg g) (hs : swapsWithSole [tg] e pos.line X.env = pure false := by rfl) (hw : swappedStores [tg] e X.env = pure none := by rfl)
  (h1 : (assignEach [tg] X.env).map (·.2) = [assign tg X.env] := by rfl) : PS X (.Assign [tg] e pos) (NK te g) := by
 intro pins s σ H D I h
 refine wpAny_Assign_stores (thn (he pins s σ H _ I h) fun v s1 ⟨x, H1, I1, r1, q1⟩ => ?_) hs hw
 rw [h1]
 exact thn (hg pins s1 σ H1 x v _ I1 r1 q1) fun _ s2 q => q
theorem W8 {i : Nat} {x : Str} {e : Expr} {te : TE} {pos' : Pos} (hN : X.N.Nodup) (hi : X.N[i]? = some x) (hx : Loc X.env.scope x) (he : PE X e te) (hs : swapsWith e (some (.Name x pos')) pos.line X.env = pure false := by rfl) (hf : X.fn x = true \/ X.env.scope.names.lookup x = some .local := by first | exact .inl rfl | exact .inr rfl | assumption) :
  PS X (.Assign [.Name x pos'] e pos) (NK te (FQ i)) := by
 intro pins s σ H D I h
 refine wpAny_Assign_Name (thn (he pins s σ H _ I h) fun v s1 ⟨y, H1, I1, r1, q1⟩ => ?_) hs
 exact Z4 I1 hN hi hx r1 (fun s2 I2 => ⟨_, H1, I2, q1⟩) hf
def Pf (i : Nat) (te : TE) (ti : TIp) : TS := fun D σ H => ∃ x, σ[i]? = some (some x) /\ te σ H fun y H1 => ti x y H1 fun z H2 => D.nx (σ.set i (some z)) H2
theorem DL {i : Nat} {x : Str} {e : Expr} {te : TE} {op : Operator} {ti : TIp} {pos' : Pos} (hN : X.N.Nodup) (hi : X.N[i]? = some x) (hx : Loc X.env.scope x) (he : PE X e te) (ho : PIp X op ti) (hf : X.fn x = true \/ X.env.scope.names.lookup x = some .local := by first | exact .inl rfl | exact .inr rfl | assumption) :
  PS X (.AugAssign (.Name x pos') op e pos) (Pf i te ti) := by
 intro pins s σ H D I h
 obtain ⟨v, e1, h⟩ := h
 obtain ⟨m, hn, hl⟩ := I.loc
 have vis : Vis X.env.scope x := by rcases hx with k | k; exact .inl k; exact .inr (.inl k)
 obtain ⟨u, r, l⟩ := hl i x v hi e1 vis
 refine wpAny_AugAssign_Name ?_
 have go : wpAny (model X.prog X.w) X.A (eval e X.env) (fun w s₂ => wpAny (model X.prog X.w) X.A (inplaceOp op u w) (fun r s₃ => wpAny (model X.prog X.w) X.A (storeName X.env x r) (fun _ => SP X pins D .next) X.xe s₃) X.xe s₂) X.xe s := by
  refine thn (he pins s σ H _ I h) fun w s1 ⟨y, H1, I1, r1, q1⟩ => ?_
  refine thn (ho pins s1 σ H1 v y u w _ I1 r r1 q1) fun z s2 ⟨zv, H2, I2, r2, q2⟩ => ?_
  exact Z4 I2 hN hi hx r2 (fun s3 I3 => ⟨_, H2, I3, q2⟩) hf
 rcases l with ⟨hk, hm⟩ | ⟨hk, c, hc, hcell⟩
 ·exact wpAny_loadName_local I.ok.kind hk hn hm go
 ·rcases hk with hk | hk
  ·exact wpAny_loadName_cell I.ok.kind hk hc hcell go
  ·rcases hx with k | k
   ·have : X.env.scope.names.lookup x = some .free := hk
    rw [k] at this; cases this
   ·have : X.env.scope.names.lookup x = some .free := hk
    rw [k] at this; cases this
def ipI (f : Int -> Int -> Int) : TIp := fun x y H Q => ∃ i j, x = .int i /\ y = .int j /\ Q (.int (f i j)) H
theorem FM : PIp X .Add (ipI fun i j => i + j) := by
 intro pins s σ H x y v u Q I r1 r2 h
 obtain ⟨i, j, e1, e2, q⟩ := h
 subst e1; subst e2
 obtain ⟨t, rfl⟩ := r1
 obtain ⟨t', rfl⟩ := r2
 exact iadd_int ⟨.int _, H, I.tok _, ⟨_, rfl⟩, q⟩
end
section
variable {X : Cx} {pos : Pos}
def De (c : TT) (tb : TS) : TS := fun D σ H => ∃ W : Nat -> St -> Hp -> Prop, (∃ m, W m σ H) /\ ∀ m σ H, W m σ H →
 c σ H fun b H1 => if b = true then ∃ N : St -> Hp -> Prop, (∀ σ' H', N σ' H' -> ∃ m', m' < m /\ W m' σ' H') /\ tb { D with nx := N, ct := N, bk := D.nx } σ H1 else D.nx σ H1
theorem KB {c : Expr} {body : List Stmt} {tc : TT} {tb : TS} (hp : PassesOwn (model X.prog X.w) X.A X.env X.xe) (hc : PT X c tc) (hb : PSs X body tb) : PS X (.While c body [] pos) (De tc tb) := by
 intro pins s σ H D I h
 obtain ⟨W, ⟨m0, w0⟩, turn⟩ := h
 refine wpAny_While (codeAny_whileLoop (fun n s' => ∃ σ' H', Inv X pins σ' H' s' /\ W n σ' H') ?_ m0 ⟨σ, H, I, w0⟩)
 rintro n s1 ⟨σ1, H1, I1, w1⟩
 refine wpAny_passesOwn hp (thn (hc pins s1 σ1 H1 _ I1 (turn n σ1 H1 w1)) fun b s2 ⟨H2, I2, q2⟩ => ?_)
 cases b with
 | true =>
  obtain ⟨N, hN, q2⟩ := q2
  rw [if_pos rfl]
  refine wpAny_passesOwn hp (thn (hb pins s2 σ1 H2 _ I2 q2) fun f s3 q3 => ?_)
  cases f with
  | next =>
   obtain ⟨σ3, H3, I3, n3⟩ := q3
   obtain ⟨m', hm, w3⟩ := hN σ3 H3 n3
   exact ⟨m', hm, σ3, H3, I3, w3⟩
  | cont =>
   obtain ⟨σ3, H3, I3, n3⟩ := q3
   obtain ⟨m', hm, w3⟩ := hN σ3 H3 n3
   exact ⟨m', hm, σ3, H3, I3, w3⟩
  | brk => exact q3
  | ret v => exact q3
 | false =>
  rw [if_neg g1n]
  exact wpAny_execs_nil ⟨σ1, H2, I2, q2⟩
end
structure It where
 go : Nat -> Hp -> Prop
 yld : Nat -> Hp -> V -> Hp -> Prop
 stop : Nat -> Hp -> Prop
def uz (X : Cx) (pins : List (Addr × Obj)) (H : Hp) (b : Addr) : Prop :=
 H b = none /\ b ≠ X.env.locals /\ b ∉ X.fs /\ (b ∈ X.ex \/ X.s₀.heap.objs.size <= b) /\ (∀ x c, X.env.cells.lookup x = some c -> c ≠ b) /\ ∀ p ∈ X.pn ++ pins, p.1 ≠ b
theorem Inv.fpOk {X : Cx} {pins : List (Addr × Obj)} {σ : St} {H H' : Hp} {s : Shared} {b : Addr} (I : Inv X pins σ H s) (hb : s.heap.objs.size <= b) (hn : H' b = none) : uz X pins H' b := by
 refine ⟨hn, Nat.ne_of_gt (g1c I.lt hb), I.nofs hb, .inr (g1x I.sz hb), fun x c e z => ?_, fun p hp z => ?_⟩
 ·obtain ⟨v, q⟩ := I.cell x c e
  exact absurd (g1c q.lt (by rw [z]; exact hb)) (g3c _)
 ·exact absurd (g1c (Heap.lt_size (I.pin p hp).1) (by rw [z]; exact hb)) (g3c _)
structure Turn (P : Program) (w : World) (K : W.Frag) (tg : Expr) (J : It) (fp : List Addr) (it : Addr) (tn : Nat -> Heap -> Prop) : Prop where
 mem : it ∈ fp
 obj : ∀ i h, tn i h -> ∀ b ∈ fp, ∃ o, h.get? b = some o /\ ∀ v, o.data ≠ .cell v
 keep : ∀ i h h', tn i h -> (∀ b ∈ fp, ∀ o, h.get? b = some o -> h'.get? b = some o) -> tn i h'
 item : ∀ (X : Cx), X.prog = P -> X.w = w -> X.K = K -> X.calm = true -> ∀ (i : Nat) (pins : List (Addr × Obj)) (s : Shared) (σ : St) (H : Hp) (E : Value -> Shared -> Prop), Inv X pins σ H s -> (∀ b ∈ fp, uz X pins H b) -> tn i s.heap -> J.go i H →
  wpAny (model P w) X.A (pyNext (.ref it)) (fun r s1 => ∃ u, r = some u ∧
   wpAny (model P w) X.A (letOwnedTupleGo tg (.ref it) u) (fun _ s2 => ∃ x H', Inv X pins σ H' s2 /\ yV x u /\ J.yld i H x H' /\ tn (i + 1) s2.heap /\ ∀ b ∈ fp, H' b = none) E s1) E s
 done : ∀ (X : Cx), X.prog = P -> X.w = w -> X.K = K -> X.calm = true -> ∀ (i : Nat) (pins : List (Addr × Obj)) (s : Shared) (σ : St) (H : Hp) (E : Value -> Shared -> Prop), Inv X pins σ H s -> (∀ b ∈ fp, uz X pins H b) -> tn i s.heap -> J.stop i H →
  wpAny (model P w) X.A (pyNext (.ref it)) (fun r s1 => r = none /\ Inv X pins σ H s1) E s
 self : ∀ (A : Around) (i : Nat) (s : Shared) (Q : Value -> Shared -> Prop) (E : Value -> Shared -> Prop), tn i s.heap -> Q (.ref it) s -> wpAny (model P w) A (pyIter (.ref it)) Q E s
abbrev TI := St -> Hp -> (It -> Hp -> Prop) -> Prop
def PIE (X : Cx) (pins : List (Addr × Obj)) (σ : St) (tg : Expr) (R : It -> Hp -> Prop) (itv : Value) (s2 : Shared) : Prop :=
 ∃ (it : Addr) (fp : List Addr) (tn : Nat -> Heap -> Prop) (J : It) (H' : Hp), itv = .ref it /\ Inv X pins σ H' s2 /\ Turn X.prog X.w X.K tg J fp it tn /\ tn 0 s2.heap /\ (∀ b ∈ fp, uz X pins H' b) /\ R J H'
def PI (X : Cx) (tg iter : Expr) (wi : TI) : Prop :=
 ∀ (pins : List (Addr × Obj)) (s : Shared) (σ : St) (H : Hp) (R : It -> Hp -> Prop), Inv X pins σ H s -> wi σ H R →
  wpAny (model X.prog X.w) X.A (eval iter X.env) (fun v s1 => wpAny (model X.prog X.w) X.A (pyIter v) (PIE X pins σ tg R) X.xe s1) X.xe s
theorem Gu {M : Model} {A : Around} {E : Value -> Shared -> Prop} {s : Shared} {tg : Expr} {it : Addr} {u : Value} {o : Obj} {n : String} {vs : Array Value} {Q : Unit -> Shared -> Prop} (ho : s.heap.get? it = some o) (hc : o.cls = .type n) (hd : o.data = .fields vs)
    (hn : ["enumerate", "zip", "dict_itemiterator", "dict_reverseitemiterator", "odict_iterator", "itertools.zip_longest", "itertools.pairwise"].contains n = false) (hQ : Q () s) : wpAny M A (letOwnedTupleGo tg (.ref it) u) Q E s := by
  unfold letOwnedTupleGo
  cases tg <;> first
    | exact wpAny_pure hQ
    | (cases u <;> first
        | exact wpAny_pure hQ
        | (refine wpAny_bind (wpAny_load ho ?_)
           rw [hc, hd]
           show wpAny M A (if (["enumerate", "zip", "dict_itemiterator", "dict_reverseitemiterator", "odict_iterator", "itertools.zip_longest", "itertools.pairwise"].contains n && vs[0]? == some (rawInt _)) = true then _ else _) Q E s
           rw [if_neg (by intro h; rw [hn, Bool.false_and] at h; cases h)]
           exact wpAny_pure hQ))
def Itl (K : W.Frag) (a : Addr) : It :=
 ⟨fun i H => ∃ xs x, SqL K H a xs /\ xs[i]? = some x, fun i H x H' => H' = H /\ ∀ xs, SqL K H a xs -> xs[i]? = some x, fun i H => ∃ xs, SqL K H a xs /\ xs.length <= i⟩
def Itt (K : W.Frag) (a : Addr) : It :=
 ⟨fun i H => ∃ xs x, SqT K H a xs /\ xs[i]? = some x, fun i H x H' => H' = H /\ ∀ xs, SqT K H a xs -> xs[i]? = some x, fun i H => ∃ xs, SqT K H a xs /\ xs.length <= i⟩
def Itr (lo : Int) (n : Nat) : It := ⟨fun i _ => i < n, fun i H x H' => H' = H /\ x = .int (lo + i), fun i _ => n <= i⟩
theorem UY {P : Program} {w : World} {K : W.Frag} {tg : Expr} (a it : Addr) : Turn P w K tg (Itl K a) [it] it (fun i h => h.IsListIter it a i) where
 mem := by simp
 obj := fun i h st b hb => by
  have e : b = it := by simpa using hb
  subst e
  obtain ⟨o, e, c, d⟩ := st
  exact ⟨o, e, fun v z => by rw [d] at z; cases z⟩
 keep := fun i h h' st k => st.at fun o e => k it (by simp) o e
 item := by
  intro X hP hw hK hc i pins s σ H E I hf st hg
  subst hP hw hK
  obtain ⟨xs, x, hq, hx⟩ := hg
  obtain ⟨its, rv, p, hz⟩ := I.list hq
  obtain ⟨u, hu, ru⟩ := rv.get hx
  obtain ⟨f0, f1, f2, f3, f4, f5⟩ := hf it (by simp)
  refine wpAny_pyNext_list_item st p.isList (x := u) (by simpa using hu) fun h' st' sb => ?_
  have I1 : Inv X pins σ H { s with heap := h' } := I.turned (t' := s.toks) (fun b o hb e => (sb.2 b hb).trans e) f0 f1 f3 f4 f5
  obtain ⟨o, e, c, d⟩ := id st'
  exact ⟨u, rfl, Gu (s := { s with heap := h' }) e c d (by decide) ⟨x, H, I1, ru, ⟨rfl, fun ys hy => by rw [I.list_inj hy hq]; exact hx⟩, st', fun b hb => (hf b hb).1⟩⟩
 done := by
  intro X hP hw hK hc i pins s σ H E I hf st hg
  subst hP hw hK
  obtain ⟨xs, hq, hx⟩ := hg
  obtain ⟨its, rv, p, hz⟩ := I.list hq
  obtain ⟨f0, f1, f2, f3, f4, f5⟩ := hf it (by simp)
  have hl := rv.length
  exact wpAny_pyNext_list_end (I.ok.hd hc) st p.isList (by simp; omega) fun h' eb => ⟨rfl, I.turned (t' := s.toks) (fun b o hb e => eb b o hb e) f0 f1 f3 f4 f5⟩
 self := fun _ _ _ _ _ st h => wpAny_pyIter_listiter st h
theorem VS {P : Program} {w : World} {K : W.Frag} {tg : Expr} (a it : Addr) : Turn P w K tg (Itt K a) [it] it (fun i h => h.IsTupleIter it a i) where
 mem := by simp
 obj := fun i h st b hb => by
  have e : b = it := by simpa using hb
  subst e
  obtain ⟨o, e, c, d⟩ := st
  exact ⟨o, e, fun v z => by rw [d] at z; cases z⟩
 keep := fun i h h' st k => st.at fun o e => k it (by simp) o e
 item := by
  intro X hP hw hK hc i pins s σ H E I hf st hg
  subst hP hw hK
  obtain ⟨xs, x, hq, hx⟩ := hg
  obtain ⟨its, rv, p, hz⟩ := I.tuple hq
  obtain ⟨u, hu, ru⟩ := rv.get hx
  obtain ⟨f0, f1, f2, f3, f4, f5⟩ := hf it (by simp)
  refine wpAny_pyNext_tuple_item st (show s.heap.IsTuple a its.toArray from p) (x := u) (by simpa using hu) fun h' st' sb => ?_
  have I1 : Inv X pins σ H { s with heap := h' } := I.turned (t' := s.toks) (fun b o hb e => (sb.2 b hb).trans e) f0 f1 f3 f4 f5
  obtain ⟨o, e, c, d⟩ := id st'
  exact ⟨u, rfl, Gu (s := { s with heap := h' }) e c d (by decide) ⟨x, H, I1, ru, ⟨rfl, fun ys hy => by rw [I.tuple_inj hy hq]; exact hx⟩, st', fun b hb => (hf b hb).1⟩⟩
 done := by
  intro X hP hw hK hc i pins s σ H E I hf st hg
  subst hP hw hK
  obtain ⟨xs, hq, hx⟩ := hg
  obtain ⟨its, rv, p, hz⟩ := I.tuple hq
  obtain ⟨f0, f1, f2, f3, f4, f5⟩ := hf it (by simp)
  have hl := rv.length
  exact wpAny_pyNext_tuple_end (I.ok.hd hc) st (show s.heap.IsTuple a its.toArray from p) (by simp; omega) fun h' eb => ⟨rfl, I.turned (t' := s.toks) (fun b o hb e => eb b o hb e) f0 f1 f3 f4 f5⟩
 self := fun _ _ _ _ _ st h => wpAny_pyIter_tupleiter st h
theorem VT {P : Program} {w : World} {K : W.Frag} {tg : Expr} (it : Addr) (lo : Int) (n : Nat) : Turn P w K tg (Itr lo n) [it] it (fun i h => IsRangeIter h it (lo + (i : Nat) * 1) ((n : Int) - (i : Nat)) 1) where
 mem := by simp
 obj := fun i h st b hb => by
  have e : b = it := by simpa using hb
  subst e
  exact ⟨_, st, fun v z => by
   have z' : Data.fields _ = Data.cell v := z
   cases z'⟩
 keep := fun i h h' st k => k it (by simp) _ st
 item := by
  intro X hP hw hK hc i pins s σ H E I hf st hg
  subst hP hw hK
  obtain ⟨f0, f1, f2, f3, f4, f5⟩ := hf it (by simp)
  have W := Walks.range (prog := X.prog) (w := X.w) (I.ok.hd hc) it lo 1 n
  refine W.item i s _ _ hg st fun v h' tk hv st' kk => ?_
  obtain ⟨t, rfl⟩ := hv
  have I1 : Inv X pins σ H { s with heap := h', toks := tk } := I.turned (fun b o hb e => kk b o (by simpa using hb) e) f0 f1 f3 f4 f5
  refine ⟨_, rfl, Gu (s := { s with heap := h', toks := tk }) (n := "range_iterator") st' rfl rfl (by decide) ⟨.int (lo + i), H, I1, ⟨t, ?_⟩, ⟨rfl, rfl⟩, st', fun b hb => (hf b hb).1⟩⟩
  rw [Int.mul_one]
 done := by
  intro X hP hw hK hc i pins s σ H E I hf st hg
  subst hP hw hK
  obtain ⟨f0, f1, f2, f3, f4, f5⟩ := hf it (by simp)
  exact wpAny_pyNext_range_end (I.ok.hd hc) st (by have : n <= i := hg; omega) fun h' eb => ⟨rfl, I.turned (t' := s.toks) (fun b o hb e => eb b o hb e) f0 f1 f3 f4 f5⟩
 self := fun _ _ _ _ _ st h => wpAny_pyIter_rangeiter st h
section
variable {X : Cx} {tg : Expr}
theorem Ky {pins : List (Addr × Obj)} {σ : St} {H : Hp} {s : Shared} {R : It -> Hp -> Prop} {E : Value -> Shared -> Prop} {lo hi : Int} {t u v : Tok} {tk : Nat} (I : Inv X pins σ H s) (h1 : -(2 ^ 62) <= lo) (h2 : lo < 2 ^ 62) (h3 : -(2 ^ 62) <= hi) (h4 : hi < 2 ^ 62)
  (q : R (Itr lo (hi - lo).toNat) H) : wpAny (model X.prog X.w) X.A (pyIter (.ref s.heap.objs.size)) (PIE X pins σ tg R) E { s with heap := s.heap.push { cls := .type "range", data := .fields #[.int lo t, .int hi u, .int 1 v] }, toks := tk } := by
 refine wpAny_pyIter_range (IsRange.new ..) (small_one h1 h2 h3 h4) ?_
 have I1 : Inv X pins σ H { s with heap := s.heap.push { cls := .type "range", data := .fields #[.int lo t, .int hi u, .int 1 v] }, toks := tk } := I.kept fun b o e => Heap.get?_push_of_some _ e
 refine ⟨(s.heap.push { cls := .type "range", data := .fields #[.int lo t, .int hi u, .int 1 v] }).objs.size, [(s.heap.push { cls := .type "range", data := .fields #[.int lo t, .int hi u, .int 1 v] }).objs.size], _, _, H, rfl,
  I1.kept (t' := tk) fun b o e => Heap.get?_push_of_some _ e, VT _ lo (hi - lo).toNat, ?_, fun b hb => ?_, q⟩
 ·have e1 : lo + ((0 : Nat) : Int) * 1 = lo := by simp
  have e2 : (((hi - lo).toNat : Nat) : Int) - ((0 : Nat) : Int) = Builtin.Range.rangeSize lo hi 1 := by rw [rangeSize_one]; split <;> omega
  show IsRangeIter _ _ (lo + ((0 : Nat) : Int) * 1) ((((hi - lo).toNat : Nat) : Int) - ((0 : Nat) : Int)) 1
  rw [e1, e2]
  exact Heap.get?_push_size _ rfl
 ·have e : b = (s.heap.push { cls := .type "range", data := .fields #[.int lo t, .int hi u, .int 1 v] }).objs.size := by simpa using hb
  subst e
  exact I1.fpOk (g0r _) (I1.hok.fresh (g0r _))
def Nr (ta : TA) : TI := fun σ H R => ta σ H fun vs H1 => ∃ j : Int, vs = [.int j] /\ -(2 ^ 62) <= j /\ j < 2 ^ 62 /\ R (Itr 0 j.toNat) H1
theorem Qn {a : Expr} {ta : TA} {p pos : Pos} (hg : Gl X "range") (hm : X.mg "range" = none) (ha : PA X [a] ta) (hs : starEach [a] X.env = [(false, eval a X.env)] := by rfl) : PI X tg (.Call (.Name "range" p) [a] [] pos) (Nr ta) := by
 intro pins s σ H R I h
 refine Call_ (kq I hg hm boot_range (PyProof.Rows.callWith_type1 (thn (ha pos pins s σ H _ I h) fun us s1 ⟨vs, H1, I1, r1, q1⟩ => ?_) hs rfl))
 obtain ⟨j, e, q1, q2, q⟩ := q1
 subst e
 cases r1 with
 | cons r rr =>
  cases rr
  obtain ⟨t, rfl⟩ := r
  exact call_range_1 (Ky I1 (by omega) (by omega) q1 q2 (by simpa using q))
def Pe (wi : TI) (g : TG) (tb : TS) : TS := fun D σ H => wi σ H fun J H1 => ∃ W : Nat -> Nat -> St -> Hp -> Prop, (∃ m, W 0 m σ H1) /\ ∀ i m σ H, W i m σ H →
 (J.stop i H /\ D.nx σ H) \/ (J.go i H /\ ∃ N : St -> Hp -> Prop, (∀ σ' H', N σ' H' -> ∃ m', m' < m /\ W (i + 1) m' σ' H') /\ ∀ x H', J.yld i H x H' -> g x σ H' fun σ2 H2 => tb { D with nx := N, ct := N, bk := D.nx } σ2 H2)
def jD (fp : List Addr) (h : Heap) : List (Addr × Obj) := fp.filterMap fun b => (h.get? b).map fun o => (b, o)
theorem xy {fp : List Addr} {h : Heap} {b : Addr} {o : Obj} (hb : b ∈ fp) (e : h.get? b = some o) : (b, o) ∈ jD fp h := g3d.mpr ⟨b, hb, by rw [e]; rfl⟩
theorem kd {fp : List Addr} {h : Heap} {p : Addr × Obj} (hp : p ∈ jD fp h) : p.1 ∈ fp /\ h.get? p.1 = some p.2 := by
 obtain ⟨b, hb, e⟩ := g3d.mp hp
 cases q : h.get? b with
 | none => rw [q] at e; cases e
 | some o =>
  rw [q] at e
  have e' : (b, o) = p := g2h.inj e
  subst e'
  exact ⟨hb, q⟩
theorem Inv.pinned {pins : List (Addr × Obj)} {σ : St} {H : Hp} {s : Shared} {fp : List Addr} (I : Inv X pins σ H s) (hf : ∀ b ∈ fp, uz X pins H b) (ho : ∀ b ∈ fp, ∃ o, s.heap.get? b = some o /\ ∀ v, o.data ≠ .cell v) : Inv X (pins ++ jD fp s.heap) σ H s :=
 I.pins_of fun p hp => (g1l.mp hp).elim (fun z => I.pin p (g0q _ z)) fun z => by
  obtain ⟨hb, e⟩ := kd z
  obtain ⟨f0, f1, f2, _⟩ := hf p.1 hb
  obtain ⟨o, e', d⟩ := ho p.1 hb
  rw [e] at e'; cases e'
  exact ⟨e, f0, f1, f2, d⟩
theorem Inv.unpinned {pins pl : List (Addr × Obj)} {σ : St} {H : Hp} {s : Shared} (I : Inv X (pins ++ pl) σ H s) : Inv X pins σ H s := I.pins_of fun p hp => I.pin p (g0q _ (g2d _ hp))
theorem G9 {iter : Expr} {body : List Stmt} {wi : TI} {g : TG} {tb : TS} {pos : Pos} (hp : PassesOwn (model X.prog X.w) X.A X.env X.xe) (hc : X.calm = true) (hi : PI X tg iter wi) (hg : PG X tg g) (hb : PSs X body tb)
  (hs : ∀ x, foldedSetIterable iter X.env x = pure x := by intro _; rfl) : PS X (.For tg iter body [] pos) (Pe wi g tb) := by
 intro pins s σ H D I h
 refine wpAny_For (thn (hi pins s σ H _ I h) fun v s1 h1 => thn h1 fun itv s2 h2 => ?_) hs
 obtain ⟨it, fp, tn, J, H2, e, I2, T, st2, f2, W, ⟨m0, w0⟩, turn⟩ := h2
 subst e
 have stat : ∀ {H' : Hp}, (∀ b ∈ fp, H' b = none) -> ∀ b ∈ fp, uz X pins H' b := fun hn b hb => ⟨hn b hb, (f2 b hb).2⟩
 refine codeAny_forLoop_any (fun n s' => ∃ i σ' H', Inv X pins σ' H' s' /\ tn i s'.heap /\ (∀ b ∈ fp, H' b = none) /\ W i n σ' H') ?_ m0 ⟨0, σ, H2, I2, st2, fun b hb => (f2 b hb).1, w0⟩
 rintro n s3 ⟨i, σ3, H3, I3, st3, fr3, w3⟩
 rcases turn i n σ3 H3 w3 with ⟨stop, qn⟩ | ⟨go, N, hN, step⟩
 ·refine wpAny_passesOwn hp (thn (T.done X rfl rfl rfl hc i pins s3 σ3 H3 X.xe I3 (stat fr3) st3 stop) fun r s4 ⟨hr, I4⟩ => ?_)
  subst hr
  exact wpAny_execs_nil ⟨σ3, H3, I4, qn⟩
 ·refine wpAny_passesOwn hp (thn (T.item X rfl rfl rfl hc i pins s3 σ3 H3 X.xe I3 (stat fr3) st3 go) fun r s4 ⟨u, hr, h4⟩ => ?_)
  subst hr
  refine wpAny_passesOwn hp (thn h4 fun _ s5 ⟨x, H5, I5, r5, y5, st5, fr5⟩ => ?_)
  have I5' := I5.pinned (stat fr5) (T.obj _ _ st5)
  refine wpAny_passesOwn hp (thn (hg _ s5 σ3 H5 x u _ I5' r5 (step x H5 y5)) fun _ s6 ⟨σ6, H6, I6, q6⟩ => ?_)
  refine wpAny_passesOwn hp (thn (hb _ s6 σ6 H6 _ I6 q6) fun f s7 q7 => ?_)
  have again : ∀ {σ7 : St} {H7 : Hp}, Inv X (pins ++ jD fp s5.heap) σ7 H7 s7 -> N σ7 H7 -> ∃ m, m < n /\ ∃ i σ' H', Inv X pins σ' H' s7 /\ tn i s7.heap /\ (∀ b ∈ fp, H' b = none) /\ W i m σ' H' := fun {σ7 H7} I7 n7 => by
   obtain ⟨m', hm, w7⟩ := hN σ7 H7 n7
   refine ⟨m', hm, i + 1, σ7, H7, I7.unpinned, T.keep _ _ _ st5 fun b hb o e => (I7.pin (b, o) (g0q _ (g0q _ (xy hb e)))).1, fun b hb => ?_, w7⟩
   obtain ⟨o, e, d⟩ := T.obj _ _ st5 b hb
   exact (I7.pin (b, o) (g0q _ (g0q _ (xy hb e)))).2.1
  cases f with
  | next => obtain ⟨σ7, H7, I7, n7⟩ := q7; exact again I7 n7
  | cont => obtain ⟨σ7, H7, I7, n7⟩ := q7; exact again I7 n7
  | brk => obtain ⟨σ7, H7, I7, q7⟩ := q7; exact ⟨σ7, H7, I7.unpinned, q7⟩
  | ret v => obtain ⟨x7, σ7, H7, I7, r7, q7⟩ := q7; exact ⟨x7, σ7, H7, I7.unpinned, r7, q7⟩
end
abbrev R2 := V -> V -> Hp -> VK -> Prop
def OpR (X : Cx) (f : Value -> Value -> Sem Value) (r : R2) : Prop :=
 ∀ (pins : List (Addr × Obj)) (s : Shared) (σ : St) (H : Hp) (x y : V) (v u : Value) (Q : VK), Inv X pins σ H s -> yV x v -> yV y u -> r x y H Q →
  wpAny (model X.prog X.w) X.A (f v u) (EP X pins σ Q) X.xe s
def UnR (X : Cx) (f : Value -> Sem Value) (r : V -> Hp -> VK -> Prop) : Prop :=
 ∀ (pins : List (Addr × Obj)) (s : Shared) (σ : St) (H : Hp) (x : V) (v : Value) (Q : VK), Inv X pins σ H s -> yV x v -> r x H Q →
  wpAny (model X.prog X.w) X.A (f v) (EP X pins σ Q) X.xe s
def w6 (X : Cx) (f : Value) (r : List V -> Hp -> VK -> Prop) : Prop :=
 ∀ (pins : List (Addr × Obj)) (s : Shared) (σ : St) (H : Hp) (xs : List V) (us : List Value) (Q : VK), Inv X pins σ H s -> yP xs us -> r xs H Q →
  wpAny (model X.prog X.w) X.A (call f us) (EP X pins σ Q) X.xe s
def tOp (r : R2) (ta tb : TE) : TE := fun σ H Q => ta σ H fun x H1 => tb σ H1 fun y H2 => r x y H2 Q
def tUn (r : V -> Hp -> VK -> Prop) (ta : TE) : TE := fun σ H Q => ta σ H fun x H1 => r x H1 Q
def rI (C : Int -> Int -> Prop) (g : Int -> Int -> V) : R2 := fun x y H Q => ∃ i j, x = .int i /\ y = .int j /\ C i j /\ Q (g i j) H
def rI0 (g : Int -> Int -> V) : R2 := fun x y H Q => ∃ i j, x = .int i /\ y = .int j /\ Q (g i j) H
def rU (g : Int -> V) : V -> Hp -> VK -> Prop := fun x H Q => ∃ i, x = .int i /\ Q (g i) H
section
variable {X : Cx} {a b c : Expr} {ta tb tc : TE} {pos : Pos}
theorem ND (ha : PE X a ta) (hb : PE X b tb) {pins : List (Addr × Obj)} {s : Shared} {σ : St} {H : Hp} {R : V -> V -> Hp -> Prop} (I : Inv X pins σ H s)
  (h : ta σ H fun x H1 => tb σ H1 fun y H2 => R x y H2) {Q : Value -> Shared -> Prop} {f : Value -> Value -> Sem Value}
  (hf : ∀ v u s2 x y H2, Inv X pins σ H2 s2 -> yV x v -> yV y u -> R x y H2 -> wpAny (model X.prog X.w) X.A (f v u) Q X.xe s2) :
  wpAny (model X.prog X.w) X.A (eval a X.env) (fun v s₁ => wpAny (model X.prog X.w) X.A (eval b X.env) (fun u s₂ => wpAny (model X.prog X.w) X.A (f v u) Q X.xe s₂) X.xe s₁) X.xe s := by
 refine thn (ha pins s σ H _ I h) fun v s1 ⟨x, H1, I1, r1, q1⟩ => ?_
 refine thn (hb pins s1 σ H1 _ I1 q1) fun u s2 ⟨y, H2, I2, r2, q2⟩ => ?_
 exact hf v u s2 x y H2 I2 r1 r2 q2
theorem DY {op : Operator} {r : R2} (ho : OpR X (binaryOp op) r) (ha : PE X a ta) (hb : PE X b tb) : PE X (.BinOp a op b pos) (tOp r ta tb) := by
 intro pins s σ H Q I h
 exact wpAny_BinOp (ND ha hb I h fun v u s2 x y H2 I2 rx ry q => ho pins s2 σ H2 x y v u Q I2 rx ry q)
theorem Na {op : UnaryOp} {r : V -> Hp -> VK -> Prop} (ho : UnR X (unaryOp op) r) (ha : PE X a ta) : PE X (.UnaryOp op a pos) (tUn r ta) := by
 intro pins s σ H Q I h
 exact UnaryOp_ (thn (ha pins s σ H _ I h) fun v s1 ⟨x, H1, I1, r1, q1⟩ => ho pins s1 σ H1 x v Q I1 r1 q1)
theorem opI {f : Value -> Value -> Sem Value} {C : Int -> Int -> Prop} {g : Int -> Int -> Int}
  (rule : ∀ (i j : Int) (t u : Tok) (s : Shared) (Q : Value -> Shared -> Prop) (E : Value -> Shared -> Prop), C i j -> Q (.int (g i j) s.toks) { s with toks := s.toks + 1 } -> wpAny (model X.prog X.w) X.A (f (.int i t) (.int j u)) Q E s) :
  OpR X f (rI C fun i j => .int (g i j)) := by
 intro pins s σ H x y v u Q I rx ry h
 obtain ⟨i, j, rfl, rfl, hc, q⟩ := h
 obtain ⟨t, rfl⟩ := rx
 obtain ⟨t', rfl⟩ := ry
 exact rule i j t t' s _ _ hc ⟨.int (g i j), H, I.tok _, ⟨_, rfl⟩, q⟩
theorem N1 {f : Value -> Value -> Sem Value} {g : Int -> Int -> Int}
  (rule : ∀ (i j : Int) (t u : Tok) (s : Shared) (Q : Value -> Shared -> Prop) (E : Value -> Shared -> Prop), Q (.int (g i j) s.toks) { s with toks := s.toks + 1 } -> wpAny (model X.prog X.w) X.A (f (.int i t) (.int j u)) Q E s) :
  OpR X f (rI0 fun i j => .int (g i j)) := by
 intro pins s σ H x y v u Q I rx ry h
 obtain ⟨i, j, rfl, rfl, q⟩ := h
 obtain ⟨t, rfl⟩ := rx
 obtain ⟨t', rfl⟩ := ry
 exact rule i j t t' s _ _ ⟨.int (g i j), H, I.tok _, ⟨_, rfl⟩, q⟩
theorem Ni {f : Value -> Value -> Sem Value} {g : Int -> Int -> Bool}
  (rule : ∀ (i j : Int) (t u : Tok) (s : Shared) (Q : Value -> Shared -> Prop) (E : Value -> Shared -> Prop), Q (.bool (g i j)) s -> wpAny (model X.prog X.w) X.A (f (.int i t) (.int j u)) Q E s) :
  OpR X f (rI0 fun i j => .bl (g i j)) := by
 intro pins s σ H x y v u Q I rx ry h
 obtain ⟨i, j, rfl, rfl, q⟩ := h
 obtain ⟨t, rfl⟩ := rx
 obtain ⟨t', rfl⟩ := ry
 exact rule i j t t' s _ _ ⟨.bl (g i j), H, I, rfl, q⟩
theorem Fc : OpR X (binaryOp .Add) (rI0 fun i j => .int (i + j)) := N1 fun _ _ _ _ _ _ _ q => add_int q
theorem D8 : OpR X (binaryOp .Sub) (rI0 fun i j => .int (i - j)) := N1 fun _ _ _ _ _ _ _ q => sub_int q
theorem Fb : OpR X (binaryOp .Mod) (rI (fun _ j => 0 < j) fun i j => .int (i % j)) := opI fun i j _ _ _ _ _ hc q => by
 have h1 : (0 : Int) < j := hc
 exact mod_int' (by omega) (by rw [Int.fmod_eq_emod_of_nonneg i (by omega)]; exact q)
theorem unI {f : Value -> Sem Value} {g : Int -> Int}
  (rule : ∀ (i : Int) (t : Tok) (s : Shared) (Q : Value -> Shared -> Prop) (E : Value -> Shared -> Prop), Q (.int (g i) s.toks) { s with toks := s.toks + 1 } -> wpAny (model X.prog X.w) X.A (f (.int i t)) Q E s) :
  UnR X f (rU fun i => .int (g i)) := by
 intro pins s σ H x v Q I rx h
 obtain ⟨i, rfl, q⟩ := h
 obtain ⟨t, rfl⟩ := rx
 exact rule i t s _ _ ⟨.int (g i), H, I.tok _, ⟨_, rfl⟩, q⟩
theorem C7 : UnR X (unaryOp .USub) (rU fun i => .int (-i)) := unI fun _ _ _ _ _ q => neg_int q
end
section
variable {X : Cx} {a b c : Expr} {ta tb tc : TE} {pos : Pos}
theorem Vx {pins : List (Addr × Obj)} {σ : St} {H : Hp} {s : Shared} {Q : VK} {k k' : Bool} (I : Inv X pins σ H s) (q : Q (.bl k) H) (e : k = k') : EP X pins σ Q (.bool k') s := by
 subst e
 exact ⟨.bl k, H, I, rfl, q⟩
theorem Nf : OpR X (compareOp .Lt) (rI0 fun i j => .bl (decide (i < j))) := Ni fun _ _ _ _ _ _ _ q => lt_int q
theorem Ng : OpR X (compareOp .Gt) (rI0 fun i j => .bl (decide (j < i))) := Ni fun _ _ _ _ _ _ _ q => gt_int q
theorem Nh : OpR X (compareOp .GtE) (rI0 fun i j => .bl (decide (j <= i))) := Ni fun _ _ _ _ _ _ _ q => ge_int q
theorem Qv : OpR X (compareOp .In) (fun x y H Q => ∃ i j, x = .str i /\ y = .str j /\ Q (.bl (!(Builtin.Str.occurrences j i 0 j.length 1).isEmpty)) H) := by
 intro pins s σ H x y v u Q I rx ry h
 obtain ⟨i, j, rfl, rfl, q⟩ := h
 obtain ⟨t, rfl⟩ := rx
 obtain ⟨t', rfl⟩ := ry
 exact in_str (Vx I q rfl)
theorem Bq : OpR X (compareOp .IsNot) (fun x y H Q => y = .non /\ Q (.bl (!decide (x = .non))) H) := by
 intro pins s σ H x y v u Q I rx ry h
 obtain ⟨rfl, q⟩ := h
 cases ry
 refine isnot_none_gen (Vx I q ?_)
 cases x <;> first
  | (cases rx; rfl)
  | (obtain ⟨t, rfl⟩ := rx; rfl)
theorem YZ : OpR X (compareOp .NotIn) (fun x y H Q => ∃ i j, x = .str i /\ y = .str j /\ Q (.bl (!(!(Builtin.Str.occurrences j i 0 j.length 1).isEmpty))) H) := by
 intro pins s σ H x y v u Q I rx ry h
 obtain ⟨i, j, rfl, rfl, q⟩ := h
 obtain ⟨t, rfl⟩ := rx
 obtain ⟨t', rfl⟩ := ry
 exact notIn_str (Vx I q rfl)
theorem OpR.or {f : Value -> Value -> Sem Value} {r r' : R2} (h : OpR X f r) (h' : OpR X f r') : OpR X f (fun x y H Q => r x y H Q \/ r' x y H Q) := by
 intro pins s σ H x y v u Q I rx ry q
 rcases q with q | q
 ·exact h pins s σ H x y v u Q I rx ry q
 ·exact h' pins s σ H x y v u Q I rx ry q
theorem jE (b : Expr) {op : CmpOp} (h : op ≠ .In := by decide) (h2 : op ≠ .NotIn := by decide) : behindInMarks op b = false := by
 have e1 : (op == CmpOp.In) = false := by cases op <;> first | rfl | exact absurd rfl h
 have e2 : (op == CmpOp.NotIn) = false := by cases op <;> first | rfl | exact absurd rfl h2
 cases b <;> simp [behindInMarks, e1, e2]
theorem Bl {op : CmpOp} {r : R2} (ho : OpR X (compareOp op) r) (ha : PE X a ta) (hb : PE X b tb) (hm : behindInMarks op b = false) : PE X (.Compare a [op] [b] pos) (tOp r ta tb) := by
 intro pins s σ H Q I h
 exact wpAny_Compare1 (ND ha hb I h fun v u s2 x y H2 I2 rx ry q => ho pins s2 σ H2 x y v u Q I2 rx ry q) hm
def MJ (t : TE) : TT := fun σ H Q => t σ H fun x H' => ∃ k, x = .bl k /\ Q k H'
theorem Bc {op : CmpOp} {r : R2} (ho : OpR X (compareOp op) r) (ha : PE X a ta) (hb : PE X b tb) (hm : behindInMarks op b = false) : PT X (.Compare a [op] [b] pos) (MJ (tOp r ta tb)) := by
 intro pins s σ H Q I h
 refine wpAny_isTrue_Compare1 (thn (ha pins s σ H _ I h) fun v s1 ⟨x, H1, I1, r1, q1⟩ => thn (hb pins s1 σ H1 _ I1 q1) fun u s2 ⟨y, H2, I2, r2, q2⟩ =>
  thn (ho pins s2 σ H2 x y v u _ I2 r1 r2 q2) fun c s3 ⟨z, H3, I3, r3, k, e, q3⟩ => ?_) hm
 subst e
 cases r3
 exact wpAny_truthy_bool ⟨H3, I3, q3⟩
theorem jG : (sizeLine : Nat) < 2 ^ 63 := by rw [sizeLine_eq]; decide
theorem Uc : OpR X (binaryOp .Add) (fun x y H Q => ∃ i j, x = .str i /\ y = .str j /\ i.length + j.length <= sizeLine /\ Q (.str (i ++ j)) H) := by
 intro pins s σ H x y v u Q I rx ry h
 obtain ⟨i, j, rfl, rfl, hz, q⟩ := h
 obtain ⟨t, rfl⟩ := rx
 obtain ⟨t', rfl⟩ := ry
 exact add_str (fun t' tk => ⟨.str (i ++ j), H, I.tok _, ⟨_, rfl⟩, q⟩) hz
theorem Zi {x : V} {us : List Value} (r : yP [x] us) : ∃ u, us = [u] /\ yV x u := by
 cases r with
 | cons r1 r2 => cases r2; exact ⟨_, rfl, r1⟩
theorem HB {x y : V} {us : List Value} (r : yP [x, y] us) : ∃ u w', us = [u, w'] /\ yV x u /\ yV y w' := by
 cases r with
 | cons r1 r2 =>
  cases r2 with
  | cons r3 r4 => cases r4; exact ⟨_, _, rfl, r1, r3⟩
theorem qJ (hc : X.calm = true) : w6 X (.builtin "max") (fun xs H Q => ∃ i j, xs = [.int i, .int j] /\ Q (.int (if j > i then j else i)) H) := by
 intro pins s σ H xs us Q I r h
 obtain ⟨i, j, rfl, q⟩ := h
 obtain ⟨u, w', rfl, ⟨t, rfl⟩, ⟨t', rfl⟩⟩ := HB r
 refine max_two_ints (I.ok.hd hc) fun h' tk k => ⟨_, H, I.kept k, ?_, q⟩
 by_cases hj : j > i
 ·rw [if_pos hj, if_pos hj]; exact ⟨_, rfl⟩
 ·rw [if_neg hj, if_neg hj]; exact ⟨_, rfl⟩
theorem kQ (hc : X.calm = true) : w6 X (.builtin "min") (fun xs H Q => ∃ i j, xs = [.int i, .int j] /\ Q (.int (if j < i then j else i)) H) := by
 intro pins s σ H xs us Q I r h
 obtain ⟨i, j, rfl, q⟩ := h
 obtain ⟨u, w', rfl, ⟨t, rfl⟩, ⟨t', rfl⟩⟩ := HB r
 refine min_two_ints (I.ok.hd hc) fun h' tk k => ⟨_, H, I.kept k, ?_, q⟩
 by_cases hj : j < i
 ·rw [if_pos hj, if_pos hj]; exact ⟨_, rfl⟩
 ·rw [if_neg hj, if_neg hj]; exact ⟨_, rfl⟩
end
section
variable {prog : Program} {w : World} {A : Around} {E : Value -> Shared -> Prop} {s : Shared} {K : W.Frag} {x dx C f : Addr} {mA : Str -> Option Value} {name : Str} {v : Value}
end
section
variable {P : Program} {w : World} {H H' : Hp} {h h' : Heap} {a C dx : Addr} {fs fs' : List (Str × V)}
end
section
variable {X : Cx} {pins : List (Addr × Obj)} {σ : St} {H : Hp} {s : Shared} {a C dx : Addr} {fs : List (Str × V)} {f : Str} {v : V} {A : Around} {E : Value -> Shared -> Prop}
end
section
variable {X : Cx} {o e value : Expr} {f : Str} {pos pos' tpos : Pos} {ta tv : TE}
end
section
variable {X : Cx} {pins : List (Addr × Obj)} {σ : St} {H : Hp} {s : Shared} {A : Around} {E : Value -> Shared -> Prop} {Q : Value -> Shared -> Prop} {c : Value} {b : Bool}
end
structure Room (k : Nat) (A : Around) : Prop where
 hd : A.handled = none
 dp : A.depth + 3 * k + 5 < recursionLimit
 un : A.units + 16 * k + 200 < cLine
theorem Room.mono {j k : Nat} {A : Around} (r : Room k A) (h : j <= k) : Room j A := ⟨r.hd, by have := r.dp; omega, by have := r.un; omega⟩
theorem Room.deeper {k : Nat} {A : Around} (r : Room (k + 1) A) (env : Env) : Room k (A.deeper env) :=
 ⟨r.hd, by have := r.dp; show A.depth + 1 + 3 * k + 5 < _; omega, by have := r.un; show A.units + 3 + 16 * k + 200 < _; omega⟩
theorem Room.depth {k : Nat} {A : Around} (r : Room k A) : A.depth < recursionLimit := by have := r.dp; omega
def Pb : TA := fun _ H Q => Q [] H
def MO (ta : TE) (tr : TA) : TA := fun σ H Q => ta σ H fun x H1 => tr σ H1 fun xs H2 => Q (x :: xs) H2
section
variable {X : Cx} {e : Expr} {es : List Expr} {te : TE} {t : TA} {pos : Pos}
theorem uT : PA X [] Pb := fun _ _ _ _ H Q I h => Calls.spliced_nil ⟨[], H, I, .nil, h⟩
theorem wm (ha : PE X e te) (hr : PA X es t) (hs : starEach (e :: es) X.env = (false, eval e X.env) :: starEach es X.env := by rfl) : PA X (e :: es) (MO te t) := by
 intro pos pins s σ H Q I h
 rw [hs]
 show wpAny _ _ (spliced ((false, eval e X.env) :: backTo pos (starEach es X.env))) _ _ s
 refine Calls.spliced_cons (thn (ha pins s σ H _ I h) fun u s1 ⟨x, H1, I1, r1, q1⟩ => ?_)
 exact thn (hr pos pins s1 σ H1 _ I1 q1) fun us s2 ⟨xs, H2, I2, r2, q2⟩ => ⟨x :: xs, H2, I2, .cons r1 r2, q2⟩
def N7 (t : TA) : TE := fun σ H Q => t σ H fun xs H1 => xs.length <= sizeLine /\ ∀ p, H1 p = none -> Q (.ref p) (upd H1 p (.tup xs))
def Pc (t : TA) : TE := fun σ H Q => t σ H fun xs H1 => xs.length <= sizeLine /\ ∀ p, H1 p = none -> Q (.ref p) (upd H1 p (.lst xs))
theorem Qp {x1} (h : PA X es t) : PE X (.Tuple es x1 pos) (N7 t) := by
 intro pins s σ H Q I hq
 refine wpAny_Tuple_spliced (thn (h pos pins s σ H _ I hq) fun us s1 ⟨xs, H1, I1, r, z, q⟩ => ⟨by rw [<- r.length]; exact z, ?_⟩)
 have hf : H1 s1.heap.objs.size = none := I1.hok.fresh (g0r _)
 refine ⟨.ref s1.heap.objs.size, upd H1 s1.heap.objs.size (.tup xs), I1.laid (t' := s1.toks) (fun b u e => Heap.get?_push_of_some _ e) (g0r _) ?_, rfl, q _ hf⟩
 exact ⟨z, us, r, ⟨_, Heap.get?_push_size _ rfl, rfl, _, rfl⟩⟩
theorem D4 (h : PA X es t) : PE X (.List es pos) (Pc t) := by
 intro pins s σ H Q I hq
 refine wpAny_List_spliced (thn (h pos pins s σ H _ I hq) fun us s1 ⟨xs, H1, I1, r, z, q⟩ => ⟨by rw [<- r.length]; exact z, ?_⟩)
 have hf : H1 s1.heap.objs.size = none := I1.hok.fresh (g0r _)
 refine ⟨.ref s1.heap.objs.size, upd H1 s1.heap.objs.size (.lst xs), I1.laid (t' := s1.toks) (fun b u e => Heap.get?_push_of_some _ e) (g0r _) ?_, rfl, q _ hf⟩
 exact ⟨z, us, 0, r, Heap.get?_push_size _ rfl⟩
end
abbrev Sp := List V -> Hp -> VK -> XK -> Prop
abbrev CXT := List Env -> Hp -> Shared -> XK -> Value -> Shared -> Prop
structure Env0 (P : Program) (w : World) (K : W.Frag) (mg : Str -> Option Value) (base : Heap) (A : Around) (outer : List Env) (s : Shared) (H : Hp) : Prop where
 frames : A.frames = some outer
 mod : Mod K mg base
 bs : ∀ b o, base.get? b = some o -> s.heap.get? b = some o /\ H b = none
 bsz : base.objs.size <= s.heap.objs.size
 funs : s.heap.FunFrames base outer
 frf : ∀ b ∈ frs outer, H b = none
 hok : HOk P w H s.heap
 bare : AllBare s.gens
def CE (outer : List Env) (P : Program) (w : World) (H : Hp) (s : Shared) (Q : VK) (u : Value) (s' : Shared) : Prop :=
 ∃ v H', s'.os = s.os /\ AllBare s'.gens /\ Un (frs outer) [] H H' s.heap s'.heap /\ HOk P w H' s'.heap /\ yV v u /\ Q v H'
def CR (CX : CXT) (outer : List Env) (P : Program) (w : World) (H : Hp) (s : Shared) (Q : VK) (E : XK) (r : Result) (s' : Shared) : Prop :=
 match r with
 | .ok (.ret u) => CE outer P w H s Q u s'
 | .ok _ => False
 | .error e => CX outer H s E e s'
structure FnOk (P : Program) (w : World) (K : W.Frag) (mg : Str -> Option Value) (base : Heap) (CX : CXT) (k : Nat) (f : Addr) (fd : FuncData) (ps : List Str) (sp : Sp) : Prop where
 len : ∀ vs H Q E, sp vs H Q E -> vs.length = ps.length
 run : ∀ (A : Around) (outer : List Env) (s : Shared) (H : Hp) (args : Args) (us : List Value) (vs : List V) (Q : VK) (E : XK), Room k A -> Env0 P w K mg base A outer s H -> BindsTo s fd args (ps.zip us) -> yP vs us -> sp vs H Q E →
  codeAny (model P w) A (.call (.ref f) args) (CR CX outer P w H s Q E) s
section
variable {X : Cx} {pins : List (Addr × Obj)} {σ : St} {H : Hp} {s s' : Shared}
theorem Inv.env0 (I : Inv X pins σ H s) : Env0 X.prog X.w X.K X.mg X.base X.A X.stack s H :=
 ⟨I.ok.frames, I.ok.mod, I.bs, g1x I.ok.bsz I.sz, I.stack, I.stkFree, I.hok, I.bare⟩
theorem Inv.after {Q : VK} {u : Value} (I : Inv X pins σ H s) (h : CE X.stack X.prog X.w H s Q u s') : EP X pins σ Q u s' := by
 obtain ⟨v, H', os, bare, un, hok, r, q⟩ := h
 obtain ⟨hh, g, d, t, os'⟩ := s'
 obtain rfl : os' = s.os := os
 exact ⟨v, H', I.call (h' := hh) (g' := g) (d' := d) (t' := t) (ch := []) un hok bare (fun b z => absurd z (by simp)), r, q⟩
end
def MP (sp : Sp) (dvs : List V) (E : XK) (t : TA) : TE := fun σ H Q => t σ H fun vs H1 => sp (vs ++ dvs) H1 Q E
def WL (K : W.Frag) (fd : FuncData) (ps : List Str) (ds : List Value) : Prop :=
 ∀ (s : Shared) (us : List Value), K.In s.heap -> (us ++ ds).length = ps.length -> BindsTo s fd ⟨us, []⟩ (ps.zip (us ++ ds))
theorem WL.all {K : W.Frag} {fd : FuncData} {ps : List Str} (h : ∀ us : List Value, us.length = ps.length -> bindArgs fd ⟨us, []⟩ = pure (ps.zip us)) : WL K fd ps [] := fun s us _ hl => by
 rw [g0t] at hl ⊢
 exact .of_eq (h us hl)
def VO (CX : CXT) (X : Cx) (E : XK) : Prop := ∀ (pins : List (Addr × Obj)) (σ : St) (H : Hp) (s : Shared) (e : Value) (s' : Shared), Inv X pins σ H s -> CX X.stack H s E e s' -> X.xe e s'
section
variable {X : Cx} {CX : CXT} {k : Nat} {f C : Addr} {fd : FuncData} {ps : List Str} {sp : Sp} {dvs : List V} {ds : List Value} {E : XK} {x m : Str} {p pos apos : Pos} {e o : Expr} {es : List Expr} {ta : TE} {t : TA}
theorem Du {pins : List (Addr × Obj)} {σ : St} {H : Hp} {s : Shared} {Q : VK} {us : List Value} {vs : List V} (F : FnOk X.prog X.w X.K X.mg X.base CX k f fd ps sp) (hr : Room k X.A) (hb : WL X.K fd ps ds) (hd : yP dvs ds) (hx : VO CX X E)
  (I : Inv X pins σ H s) (r : yP vs us) (h : sp (vs ++ dvs) H Q E) : wpAny (model X.prog X.w) X.A (call (.ref f) us) (EP X pins σ Q) X.xe s := by
 have r2 : yP (vs ++ dvs) (us ++ ds) := r.append hd
 have hl : (us ++ ds).length = ps.length := by rw [<- r2.length]; exact F.len _ _ _ _ h
 refine wpAny_call (codeAny_mono (F.run X.A X.stack s H ⟨us, []⟩ (us ++ ds) (vs ++ dvs) Q E hr I.env0 (hb s us I.kIn hl) r2 h) fun r s' hq => ?_)
 cases r with
 | error e => exact hx pins σ H s e s' I hq
 | ok fl =>
  cases fl with
  | ret u => exact I.after hq
  | next => exact False.elim hq
  | brk => exact False.elim hq
  | cont => exact False.elim hq
theorem Bm (F : FnOk X.prog X.w X.K X.mg X.base CX k f fd ps sp) (hr : Room k X.A) (hg : Gl X x) (hm : X.mg x = some (.ref f)) (hk : W.keepIn X.K (.ref f) = true) (hb : WL X.K fd ps ds) (hd : yP dvs ds) (hx : VO CX X E)
  (ha : PA X (e :: es) t) (hdb : (x == ("__debug__" : Str)) = false := by decide) (he : starEach (e :: es) X.env = (false, eval e X.env) :: starEach es X.env := by rfl) (hpl : (backTo pos (starEach es X.env)).any (·.1) = false := by rfl) :
  PE X (.Call (.Name x p) (e :: es) [] pos) (MP sp dvs E t) := by
 intro pins s σ H Q I h
 refine wpAny_Call_Name_kw (QR I hg hm ?_ hdb)
 refine PySem.W.callWith_K (h₀ := X.base) I.ok.mod.kin hk (thn (ha pos pins s σ H _ I h) fun us s1 ⟨vs, H1, I1, r, q⟩ => ⟨I1.kIn, ?_⟩) he hpl
 exact Du F hr hb hd hx I1 r q
end
section
variable {X : Cx} {CX : CXT} {k : Nat} {f C : Addr} {fd : FuncData} {ps ks : List Str} {sp : Sp} {E : XK} {x m : Str} {p pos apos kpos : Pos} {e o : Expr} {es : List Expr} {kws : List Keyword} {te ta : TE} {t tk : TA} {nm : Option Str}
variable {g : List Value -> List Value -> List Value} {gV : List V -> List V -> List V}
end
structure FnScope (N P : List Str) (sc : Scope) : Prop where
 kind : sc.kind = .function
 co : sc.isCoroutine = false
 gen : sc.isGenerator = false
 nd : N.Nodup
 pre : N.take P.length = P
 par : ∀ x ∈ P, sc.names.lookup x = some .local \/ sc.names.lookup x = some .cell
 nofree : ∀ y ∈ sc.names, y.2 ≠ .free
theorem XB {kindOf : Str -> Option NameKind} {x : Str} : ∀ {binds : List (Str × Value)} {m : Str -> Option Value}, (∀ v, (x, v) ∉ binds) -> bindL kindOf binds m x = m x
 | [], _, _ => rfl
 | (n, v) :: r, m, h => by
  unfold bindL
  rw [XB fun w hw => h w (g0o _ hw)]
  split
  ·have : x ≠ n := by rintro rfl; exact h v g0l
   simp [this]
  ·rfl
theorem XD {kindOf : Str -> Option NameKind} {x : Str} : ∀ {binds : List (Str × Value)} {m : Str -> Option Value}, (∀ v, (x, v) ∉ binds) -> bindC kindOf binds m x = m x
 | [], _, _ => rfl
 | (n, v) :: r, m, h => by
  unfold bindC
  rw [XD fun w hw => h w (g0o _ hw)]
  split
  ·rfl
  ·have : x ≠ n := by rintro rfl; exact h v g0l
   simp [this]
theorem XC {kindOf : Str -> Option NameKind} {x : Str} {v : Value} : ∀ {P : List Str} {vs : List Value} {i : Nat} {m : Str -> Option Value}, P.Nodup -> P[i]? = some x -> vs[i]? = some v -> kindOf x = some .local →
  bindL kindOf (P.zip vs) m x = some v
 | [], _, _, _, _, h, _, _ => by simp at h
 | _ :: _, [], _, _, _, _, h, _ => by simp at h
 | p :: P, w :: vs, 0, m, nd, h1, h2, hk => by
  simp at h1 h2; subst h1; subst h2
  show bindL kindOf ((p, w) :: P.zip vs) m p = _
  unfold bindL
  rw [XB fun v hv => (g2w.mp nd).1 (List.of_mem_zip hv).1, if_pos hk]
  simp
 | p :: P, w :: vs, i + 1, m, nd, h1, h2, hk => by
  show bindL kindOf ((p, w) :: P.zip vs) m x = _
  unfold bindL
  exact XC (i := i) (g2w.mp nd).2 (by simpa using h1) (by simpa using h2) hk
theorem XE {kindOf : Str -> Option NameKind} {x : Str} {v : Value} : ∀ {P : List Str} {vs : List Value} {i : Nat} {m : Str -> Option Value}, P.Nodup -> P[i]? = some x -> vs[i]? = some v -> kindOf x ≠ some .local →
  bindC kindOf (P.zip vs) m x = some v
 | [], _, _, _, _, h, _, _ => by simp at h
 | _ :: _, [], _, _, _, _, h, _ => by simp at h
 | p :: P, w :: vs, 0, m, nd, h1, h2, hk => by
  simp at h1 h2; subst h1; subst h2
  show bindC kindOf ((p, w) :: P.zip vs) m p = _
  unfold bindC
  rw [XD fun v hv => (g2w.mp nd).1 (List.of_mem_zip hv).1, if_neg hk]
  simp
 | p :: P, w :: vs, i + 1, m, nd, h1, h2, hk => by
  show bindC kindOf ((p, w) :: P.zip vs) m x = _
  unfold bindC
  exact XE (i := i) (g2w.mp nd).2 (by simpa using h1) (by simpa using h2) hk
def start (N : List Str) (vs : List V) : St := vs.map some ++ g0e (N.length - vs.length) none
def CH (CX : CXT) (P : Program) (w : World) (K : W.Frag) (mg : Str -> Option Value) (base : Heap) (N : List Str) (qual : Str) (scope : Scope) (f : Addr) (cd : Value) (A : Around) (outer : List Env) (s : Shared) (H : Hp) (E : XK) : Cx where
 prog := P
 w := w
 K := K
 mg := mg
 base := base
 A := A.deeper (envOfC qual scope s.heap.objs.size f cd)
 N := N
 s₀ := s
 H₀ := H
 env := envOfC qual scope s.heap.objs.size f cd
 outer := outer
 stack := envOfC qual scope s.heap.objs.size f cd :: outer
 ex := []
 calm := true
 fn := fun _ => true
 pn := []
 xe := fun e s' => wpAny (model P w) (A.deeper (envOfC qual scope s.heap.objs.size f cd)) (leaving (envOfC qual scope s.heap.objs.size f cd) e) (fun _ s'' => CX outer H s E e s'') (fun e' s'' => CX outer H s E e' s'') s'
theorem VF {sc : Scope} {n : Nat} {x : Str} (h : sc.names.lookup x = some .cell) : ∃ c, (cellsFrom n sc.names []).lookup x = some c := by
 have q := PySem.W.cellsFrom_some sc.names n [] (.inl h)
 exact Option.isSome_iff_exists.mp q
theorem Q0 {CX : CXT} {P : Program} {w : World} {K : W.Frag} {mg : Str -> Option Value} {base : Heap} {N ps : List Str} {qual : Str} {scope : Scope} {f : Addr} {cd : Value} {A : Around} {outer : List Env} {s s1 : Shared} {H : Hp} {E : XK} {us : List Value} {vs : List V}
  (S : FnScope N ps scope) (hd : A.handled = none) (e0 : Env0 P w K mg base A outer s H) (hl : vs.length = ps.length) (r : yP vs us)
  (x : InCallC s s.heap.objs.size (bindL (envOfC qual scope s.heap.objs.size f cd).kindOf (ps.zip us) fun _ => none) (cellsFrom (s.heap.objs.size + 1) scope.names []) (bindC (envOfC qual scope s.heap.objs.size f cd).kindOf (ps.zip us) fun _ => none) s1) :
  Inv (CH CX P w K mg base N qual scope f cd A outer s H E) [] (start N vs) H s1 := by
 have hpl : ps.length <= N.length := by have := congrArg List.length S.pre; rw [List.length_take] at this; omega
 obtain ⟨h1, tk, rfl, hk⟩ := x.done
 have noA : ∀ b : Addr, b ∉ (CH CX P w K mg base N qual scope f cd A outer s H E).ex := fun b z => absurd (show b ∈ ([] : List Addr) from z) (by simp)
 refine ⟨⟨e0.mod, S.kind, rfl, rfl, g0r _, fun y z c h1 h2 => ?_, fun y hy => ?_, fun y c _ h => ?_, fun _ => hd, Around.frames_deeper e0.frames, .inr ⟨rfl, rfl⟩, fun b z => absurd z (noA b), e0.bs, e0.bsz, fun b _ _ => noA b, fun b z => absurd z (noA b), e0.funs, e0.frf⟩,
  rfl, e0.bare, Un.kept hk, ⟨_, x.toInCall.ns, fun i y v h1 h2 h3 => ?_⟩, fun y c h => ⟨_, x.cell y c h⟩, e0.hok.fresh (g0r _), fun y c h => ?_, fun p hp => absurd (show p ∈ ([] : List (Addr × Obj)) from hp) (by simp), e0.hok.kept hk, ?_⟩
 ·exact name_of_addr x.apart (PySem.mem_of_lookup h1) (PySem.mem_of_lookup h2)
 ·have hy : scope.names.lookup y = some .cell \/ scope.names.lookup y = some .free := hy
  rcases hy with hy | hy
  ·exact VF hy
  ·exact absurd rfl (S.nofree _ (PySem.mem_of_lookup hy))
 ·exact g3b (x.above y c (PySem.mem_of_lookup h))
 ·have hi : i < vs.length := by
   unfold start at h2
   by_cases hi : i < vs.length
   ·exact hi
   ·rw [g1j (by simpa using hi)] at h2
    rw [g2c] at h2
    split at h2 <;> cases h2
  have ha : vs[i]? = some v := by
   unfold start at h2
   rw [g1k (by simpa using hi), g0w] at h2
   cases e : vs[i]? with
   | none => rw [e] at h2; cases h2
   | some a => rw [e] at h2; cases h2; rfl
  obtain ⟨u, hu, rv⟩ := r.get ha
  have hp : ps[i]? = some y := by
   rw [<- S.pre, List.getElem?_take_of_lt (by omega)]; exact h1
  have ndP : ps.Nodup := by rw [<- S.pre]; exact S.nd.sublist (List.take_sublist _ _)
  refine ⟨u, rv, ?_⟩
  rcases S.par y (g2m hp) with k | k
  ·exact .inl ⟨k, XC ndP hp hu k⟩
  ·obtain ⟨c, e⟩ := VF (n := s.heap.objs.size + 1) k
   refine .inr ⟨.inl k, c, e, ?_⟩
   have q := x.cell y c e
   rw [XE ndP hp hu (by show scope.names.lookup y ≠ _; rw [k]; decide)] at q
   exact q
 ·exact e0.hok.fresh (g3b (x.above y c (PySem.mem_of_lookup h)))
 ·unfold start
  show _ = N.length
  rw [g0h, g0k, List.length_replicate]
  omega
theorem Nu {CX : CXT} {P : Program} {w : World} {K : W.Frag} {mg : Str -> Option Value} {base : Heap} {k : Nat} {f : Addr} {name qual : Str} {params : Arguments} {body : List Stmt} {scope : Scope} {dV kV doc pm cdv ct oc : Value} {an od : Option Addr}
  {osl : Array (Option Value)} {N ps : List Str} {sp : Sp} (lk : K.lookup f = some ⟨oc, od, .func (W.fnOf name qual params body scope dV kV doc pm an cdv ct), osl⟩) (hcd : W.codeIn K cdv qual = true) (S : FnScope N ps scope)
  (len : ∀ vs H Q E, sp vs H Q E -> vs.length = ps.length)
  (hbody : ∀ (A : Around) (outer : List Env) (s : Shared) (H : Hp) (vs : List V) (Q : VK) (E : XK), Room k (A.deeper (envOfC qual scope s.heap.objs.size f cdv)) -> sp vs H Q E →
   ∃ t, PSs (CH CX P w K mg base N qual scope f cdv A outer s H E) body t /\ t { nx := fun _ H' => Q .non H', rt := Q } (start N vs) H) :
  FnOk P w K mg base CX (k + 1) f (W.fnOf name qual params body scope dV kV doc pm an cdv ct) ps sp := by
 refine ⟨len, fun A outer s H args us vs Q E hr e0 hb r hsp => ?_⟩
 have hl := len _ _ _ _ hsp
 have KX : K.In s.heap := e0.mod.kin.keeps fun b o e => (e0.bs b o e).1
 have lim : s.heap.NoLimit := e0.mod.nolimit.keeps fun b o e => (e0.bs b o e).1
 have hkind : ∀ y ∈ ps.zip us, scope.names.lookup y.1 = some .local \/ (scope.names.lookup y.1 = some .cell /\ ((cellsFrom (s.heap.objs.size + 1) scope.names []).lookup y.1).isSome = true) := fun ⟨n, v⟩ hy => by
  rcases S.par n (List.of_mem_zip hy).1 with q | q
  ·exact .inl q
  ·exact .inr ⟨q, PySem.W.cellsFrom_some _ _ _ (.inl q)⟩
 refine codeAny_call_function hr.depth (KX _ _ lk) rfl S.co S.gen rfl (PySem.W.codeRec_of KX hcd) (hb _ _ _ _ ?_)
 refine wpAny_newFunctionEnv_cells S.kind hkind fun env he s1 x => ?_
 subst he
 refine ⟨lim.keeps x.toInCall.keep, codeAny_func ?_⟩
 obtain ⟨t, ht, hq⟩ := hbody A outer s H vs Q E (hr.deeper _) hsp
 have I : Inv (CH CX P w K mg base N qual scope f cdv A outer s H E) [] (start N vs) H s1 := Q0 S hr.hd e0 hl r x
 refine wpAny_mono (ht [] s1 (start N vs) H _ I hq) (fun fl s' hs => ?_) fun e s' hs => hs
 have fin : ∀ {σ' : St} {H' : Hp} {v : V} {u : Value}, Inv (CH CX P w K mg base N qual scope f cdv A outer s H E) [] σ' H' s' -> yV v u -> Q v H' -> CE outer P w H s Q u s' :=
  fun {σ' H' v u} J rv q => ⟨v, H', J.os, J.bare, J.base, J.hok, rv, q⟩
 cases fl with
 | ret u =>
  obtain ⟨v, σ', H', J, rv, q⟩ := hs
  exact fin J rv q
 | next =>
  obtain ⟨σ', H', J, q⟩ := hs
  exact fin (v := V.non) (u := Value.none) J rfl q
 | brk =>
  obtain ⟨_, _, _, q⟩ := hs
  exact False.elim q
 | cont =>
  obtain ⟨_, _, _, q⟩ := hs
  exact False.elim q
section
variable {X : Cx} {x : Str} {p pos : Pos} {e : Expr} {es : List Expr} {t : TA} {id T : String} {r : List V -> Hp -> VK -> Prop}
def tCB (r : List V -> Hp -> VK -> Prop) (t : TA) : TE := fun σ H Q => t σ H fun vs H1 => r vs H1 Q
theorem Yf (hc : w6 X (.builtin id) r) (hg : Gl X x) (hm : X.mg x = none) (hv : bootBuiltins x = some (.builtin id)) (ha : PA X (e :: es) t) (hn : x ≠ "__name__" := by decide) (hdb : (x == ("__debug__" : Str)) = false := by decide)
  (he : starEach (e :: es) X.env = (false, eval e X.env) :: starEach es X.env := by rfl) (hpl : (backTo pos (starEach es X.env)).any (·.1) = false := by rfl) : PE X (.Call (.Name x p) (e :: es) [] pos) (tCB r t) := by
 intro pins s σ H Q I h
 refine wpAny_Call_Name_kw (kq I hg hm hv ?_ hn hdb)
 exact PyProof.Rows.callWith_builtin1 (thn (ha pos pins s σ H _ I h) fun us s1 ⟨vs, H1, I1, r1, q1⟩ => hc pins s1 σ H1 vs us Q I1 r1 q1) he hpl
theorem vA (hc : w6 X (.type T) r) (hg : Gl X x) (hm : X.mg x = none) (hv : bootBuiltins x = some (.type T)) (ha : PA X (e :: es) t) (hn : x ≠ "__name__" := by decide) (hdb : (x == ("__debug__" : Str)) = false := by decide)
  (he : starEach (e :: es) X.env = (false, eval e X.env) :: starEach es X.env := by rfl) (hpl : (backTo pos (starEach es X.env)).any (·.1) = false := by rfl) : PE X (.Call (.Name x p) (e :: es) [] pos) (tCB r t) := by
 intro pins s σ H Q I h
 refine wpAny_Call_Name_kw (kq I hg hm hv ?_ hn hdb)
 exact PyProof.Rows.callWith_type1 (thn (ha pos pins s σ H _ I h) fun us s1 ⟨vs, H1, I1, r1, q1⟩ => hc pins s1 σ H1 vs us Q I1 r1 q1) he hpl
end
end L2
namespace HT
open PySem PyProof.Rows
section
open PySem.SeqAt
open PySem.AutoSeq1 (wpAny_loadPart')
open PySem.MeetsSeq PySem.MeetsSeq2 PySem.MeetsSeq3
end
section
variable {prog : Program} {w : World} {A : Around} {E : Value -> Shared -> Prop} {s : Shared}
theorem cat_tup {t b : Addr} {vs ws : List Value} {Q : Value -> Shared -> Prop} (ht : IsTup s.heap t vs.toArray) (hb : IsTup s.heap b ws.toArray) (hv : vs ≠ [])
  (h1 : ws = [] -> Q (.ref t) s) (h2 : ws ≠ [] -> Q (.ref s.heap.objs.size) { s with heap := s.heap.push { cls := .type "tuple", data := .seq (vs ++ ws).toArray } })
  (hsz : vs.length + ws.length <= sizeLine) : wpAny (model prog w) A (binaryOp .Add (.ref t) (.ref b)) Q E s := by
 obtain ⟨⟨cls, dd, data, sl⟩, ho, hc, n, hd⟩ := id ht
 obtain ⟨⟨cls2, dd2, data2, sl2⟩, ho2, hc2, n2, hd2⟩ := id hb
 simp only at hc hd hc2 hd2
 subst hc hd hc2 hd2
 have e : vs.toArray ++ ws.toArray = (vs ++ ws).toArray := by simp
 by_cases hw : ws = []
 ·exact concat_meets ⟨_, ho, rfl⟩ ⟨_, ho2, rfl⟩ noFill_tuple_add seq_tuple_add PySem.F.slot_tuple_add PySem.F.entry_tuple_add (PySem.F.args_tuple_add_2 _ _)
   (tuple_addW1 t b vs.toArray ws.toArray n n2 dd dd2 sl sl2 (by simpa using hv) (by simp [hw])) ⟨ho, ho2, h1 hw⟩
 ·refine concat_meets ⟨_, ho, rfl⟩ ⟨_, ho2, rfl⟩ noFill_tuple_add seq_tuple_add PySem.F.slot_tuple_add PySem.F.entry_tuple_add (PySem.F.args_tuple_add_2 _ _)
   (tuple_addW2 t b vs.toArray ws.toArray n n2 dd dd2 sl sl2 (by simpa using hv) (by simpa using hw) (by rw [g0p, g0p]; exact hsz)) ⟨ho, ho2, ?_⟩
  rw [e]
  exact h2 hw
def sIx (n d : Nat) : Option Int -> Nat
 | none => d
 | some v => if v < 0 then (v + (n : Int)).toNat else min v.toNat n
theorem sIx_none (n d : Nat) : sIx n d none = d := rfl
theorem sIx_nat (n d k : Nat) : sIx n d (some (k : Int)) = min k n := by
 show (if (k : Int) < 0 then ((k : Int) + (n : Int)).toNat else min (k : Int).toNat n) = min k n
 rw [if_neg (by omega), Int.toNat_natCast]
theorem Dt (n d : Nat) (hd : d <= n) (o : Option Int) : sIx n d o <= n := by
 cases o with
 | none => exact hd
 | some v =>
  show (if v < 0 then (v + (n : Int)).toNat else min v.toNat n) <= n
  by_cases hv : v < 0
  ·rw [if_pos hv]; omega
  ·rw [if_neg hv]; exact Nat.min_le_right _ _
theorem JG (v : Int) (n d : Nat) : (if v < 0 then max (v + (n : Int)) 0 else min v (n : Int)) = ((sIx n d (some v) : Nat) : Int) := by
 show (if v < 0 then max (v + (n : Int)) 0 else min v (n : Int)) = (((if v < 0 then (v + (n : Int)).toNat else min v.toNat n) : Nat) : Int)
 by_cases hv : v < 0
 ·simp only [if_pos hv]; omega
 ·simp only [if_neg hv]; omega
theorem UI (lo hi : Option Int) (n : Nat) : Builtin.Slice.sliceAdjust lo hi 1 (n : Int) = (((sIx n 0 lo : Nat) : Int), ((sIx n n hi : Nat) : Int)) := by
 have h1 : ¬ ((1 : Int) < 0) := by omega
 unfold Builtin.Slice.sliceAdjust
 simp only [h1, if_false]
 refine Prod.ext ?_ ?_
 ·cases lo with
  | none => rfl
  | some v => exact JG v n 0
 ·cases hi with
  | none => rfl
  | some v => exact JG v n n
theorem Ua (i j : Nat) : Builtin.Slice.slicePlaces (i : Int) (j : Int) 1 = j - i := by
 unfold Builtin.Slice.slicePlaces
 have h1 : (1 : Int) > 0 := by omega
 simp only [h1, if_true, Int.ediv_one]
 split <;> omega
theorem Zu {v : Value} {o : Option Int} {Q : Option Int -> Shared -> Prop} (p : IsPart v o) (h : Q o s) : wpAny (model prog w) A (Builtin.Slice.slicePartIndex v) Q E s := by
 cases p with
 | none => exact slicePart_none h
 | int i t => exact slicePart_int h
theorem sliceApplied_gen {sl : Addr} {vl vu : Value} {lo hi : Option Int} {n : Nat} {Q : Int × Int × Nat -> Shared -> Prop} (hs : s.heap.IsSliceOf sl vl vu .none) (pl : IsPart vl lo) (pu : IsPart vu hi)
  (h : Q (((sIx n 0 lo : Nat) : Int), 1, sIx n n hi - sIx n 0 lo) s) : wpAny (model prog w) A (Builtin.Slice.sliceApplied (.ref sl) (pure (n : Int))) Q E s := by
 obtain ⟨os, hos, hcs, hds⟩ := id hs
 unfold Builtin.Slice.sliceApplied Builtin.Slice.sliceFields
 refine wpAny_bind (wpAny_bind (wpAny_field hos hds (x := vl) rfl (wpAny_bind (wpAny_field hos hds (x := vu) rfl (wpAny_bind (wpAny_field hos hds (x := .none) rfl (wpAny_pure ?_)))))))
 refine wpAny_bind (slicePart_none ?_)
 show wpAny _ _ (if ((1 : Int) == 0) = true then _ else _) _ _ s
 rw [if_neg (by decide)]
 refine wpAny_bind (Zu pl (wpAny_bind (Zu pu (wpAny_bind (wpAny_pure ?_)))))
 show wpAny _ _ (match Builtin.Slice.sliceAdjust lo hi 1 (n : Int) with | (lo, hi) => pure (lo, (1 : Int), Builtin.Slice.slicePlaces lo hi 1)) _ _ s
 rw [UI lo hi n]
 show wpAny _ _ (pure (((sIx n 0 lo : Nat) : Int), (1 : Int), Builtin.Slice.slicePlaces ((sIx n 0 lo : Nat) : Int) ((sIx n n hi : Nat) : Int) 1)) _ _ s
 rw [Ua]
 exact wpAny_pure h
theorem KD (xs : Array Value) (i k : Nat) : ((g0u k).filterMap fun (m : Nat) => xs[((i : Int) + (m : Int) * 1).toNat]?).toArray = ((xs.toList.drop i).take k).toArray := by
 have e : (fun (m : Nat) => xs[((i : Int) + (m : Int) * 1).toNat]?) = fun m => xs[i + m]? := by
  funext m
  have : ((i : Int) + (m : Int) * 1).toNat = i + m := by omega
  rw [this]
 rw [e]
 have := pick_run xs i k
 rw [List.filterMap_map] at this
 have e2 : ((fun x => xs[x]?) ∘ fun x => i + x) = fun m => xs[i + m]? := rfl
 rw [e2] at this
 rw [this]
theorem getItem_tuple_cut {t sl : Addr} {items : Array Value} {vl vu : Value} {lo hi : Option Int} {Q : Value -> Shared -> Prop} (ht : IsTup s.heap t items) (hs : s.heap.IsSliceOf sl vl vu .none) (pl : IsPart vl lo) (pu : IsPart vu hi)
  (hw : ¬ (sIx items.size 0 lo = 0 /\ sIx items.size items.size hi = items.size))
  (h : Q (.ref s.heap.objs.size) { s with heap := s.heap.push { cls := .type "tuple", data := .seq ((items.toList.drop (sIx items.size 0 lo)).take (sIx items.size items.size hi - sIx items.size 0 lo)).toArray } })
  (hsz : items.size <= sizeLine) : wpAny (model prog w) A (getItem (.ref t) (.ref sl)) Q E s := by
 have htake : sizeOk (.seq ((items.toList.drop (sIx items.size 0 lo)).take (sIx items.size items.size hi - sIx items.size 0 lo)).toArray) := by
  show ((items.toList.drop (sIx items.size 0 lo)).take (sIx items.size items.size hi - sIx items.size 0 lo)).toArray.size <= sizeLine
  rw [g0p, List.length_take, List.length_drop, Array.length_toList]
  omega
 have hj : sIx items.size items.size hi <= items.size := Dt _ _ (g0r _) hi
 obtain ⟨os, hos, hcs, hds⟩ := id hs
 have hTs : s.TypeIs (.ref sl) "slice" := ⟨os, hos, hcs⟩
 unfold getItem
 try with_reducible refine wpAny_holding ?_
 first | refine wpAny_bind (wpAny_pure ?_) | skip
 refine wpAny_bind (wpAny_sequenceKey ht.typeIs (by decide) ?_)
 refine wpAny_bind (wpAny_callSpecial?_slot (name := Str.ofString "__getitem__") ht.typeIs PyProof.Rows.slot_tuple_getitem
  (wpAny_call_entry PyProof.Rows.slot_tuple_getitem ht.typeIs entry_tuple_getitem ?_ (args_tuple_getitem _ _)))
 show wpAny _ _ (Builtin.Tuple.tupleItemsOf (.ref t) >>= _) _ _ s
 refine wpAny_bind (tupleItemsOf_ ht ?_)
 refine wpAny_bind (wpAny_typeOf hTs ?_)
 rw [if_pos (by decide)]
 refine wpAny_bind (sliceApplied_gen hs pl pu ?_)
 have hno : ¬ ((((sIx items.size 0 lo : Nat) : Int) == 0 && (1 : Int) == 1 && (sIx items.size items.size hi - sIx items.size 0 lo) == items.size) = true) := by
  intro q
  rw [g2a, g2a] at q
  have q1 : ((sIx items.size 0 lo : Nat) : Int) = 0 := eq_of_beq q.1.1
  have q2 : sIx items.size items.size hi - sIx items.size 0 lo = items.size := eq_of_beq q.2
  exact hw ⟨by omega, by omega⟩
 show wpAny _ _ (if (((sIx items.size 0 lo : Nat) : Int) == 0 && (1 : Int) == 1 && (sIx items.size items.size hi - sIx items.size 0 lo) == items.size) = true then _ else _) _ _ s
 rw [if_neg hno, KD]
 first
  | exact wpAny_bind (m := Builtin.Tuple.tupleExact _) (wpAny_newObj_type (wpAny_pure ⟨_, rfl, wpAny_pure h⟩) htake)
  | exact wpAny_bind (m := Builtin.Tuple.tupleExact _) (wpAny_newObj_type (wpAny_bind (wpAny_pure (wpAny_pure ⟨_, rfl, wpAny_pure h⟩))) htake)
  | exact wpAny_bind (wpAny_bind (m := Builtin.Tuple.tupleExact _) (wpAny_newObj_type (wpAny_pure (wpAny_pure ⟨_, rfl, wpAny_pure h⟩)) htake))
  | exact wpAny_bind (wpAny_bind (m := Builtin.Tuple.tupleExact _) (wpAny_newObj_type (wpAny_pure ⟨_, rfl, wpAny_pure h⟩) htake))
end
end HT
namespace L2
open PySem PySem.Spec PyProof.Rows
abbrev TO := St -> Hp -> (Option Int -> Hp -> Prop) -> Prop
def PO (X : Cx) (e : Option Expr) (t : TO) : Prop :=
 ∀ (pins : List (Addr × Obj)) (s : Shared) (σ : St) (H : Hp) (Q : Option Int -> Hp -> Prop), Inv X pins σ H s -> t σ H Q →
  wpAny (model X.prog X.w) X.A (evalPart e X.env) (fun u s' => ∃ o H', Inv X pins σ H' s' /\ IsPart u o /\ Q o H') X.xe s
def HE : TO := fun _ H Q => Q none H
def MK (t : TE) : TO := fun σ H Q => t σ H fun x H1 => ∃ i, x = .int i /\ Q (some i) H1
section
variable {X : Cx} {e : Expr} {te : TE} {lo hi : Option Expr} {tl th : TO} {pos p2 : Pos}
theorem Bh : PO X none HE := by
 intro pins s σ H Q I h
 rw [evalPart_none]
 exact wpAny_pure ⟨none, H, I, .none, h⟩
theorem Bg (h : PE X e te) : PO X (some e) (MK te) := by
 intro pins s σ H Q I hw
 rw [evalPart_some]
 refine thn (h pins s σ H _ I hw) fun u s1 ⟨x, H1, I1, r1, q1⟩ => ?_
 obtain ⟨i, rfl, q⟩ := q1
 obtain ⟨t, rfl⟩ := r1
 exact ⟨some i, H1, I1, .int i t, q⟩
def SlR (X : Cx) (r : V -> Option Int -> Option Int -> Hp -> VK -> Prop) : Prop :=
 ∀ (pins : List (Addr × Obj)) (s : Shared) (σ : St) (H : Hp) (x : V) (v vl vu : Value) (lo hi : Option Int) (sl : Addr) (Q : VK), Inv X pins σ H s -> yV x v -> s.heap.IsSliceOf sl vl vu .none -> IsPart vl lo -> IsPart vu hi -> r x lo hi H Q →
  ∃ T id, typeLookup (.type T) "__getitem__" = pure (some (.builtin id)) /\ s.TypeIs v T /\ wpAny (model X.prog X.w) X.A (getItem v (.ref sl)) (EP X pins σ Q) X.xe s
theorem SlR.or {r r' : V -> Option Int -> Option Int -> Hp -> VK -> Prop} (h : SlR X r) (h' : SlR X r') : SlR X (fun x lo hi H Q => r x lo hi H Q \/ r' x lo hi H Q) := by
 intro pins s σ H x v vl vu lo hi sl Q I rx hs pl pu q
 rcases q with q | q
 ·exact h pins s σ H x v vl vu lo hi sl Q I rx hs pl pu q
 ·exact h' pins s σ H x v vl vu lo hi sl Q I rx hs pl pu q
def tSl (r : V -> Option Int -> Option Int -> Hp -> VK -> Prop) (te : TE) (tl th : TO) : TE := fun σ H Q => te σ H fun x H1 => tl σ H1 fun l H2 => th σ H2 fun u H3 => r x l u H3 Q
theorem KH {r : V -> Option Int -> Option Int -> Hp -> VK -> Prop} (hr : SlR X r) (he : PE X e te) (hl : PO X lo tl) (hu : PO X hi th) : PE X (.Subscript e (.Slice lo hi none p2) pos) (tSl r te tl th) := by
 intro pins s σ H Q I h
 refine Subscript_ (thn (he pins s σ H _ I h) fun v s1 ⟨x, H1, I1, r1, q1⟩ => ?_)
 refine wpAny_Slice (thn (hl pins s1 σ H1 _ I1 q1) fun vl s2 ⟨l, H2, I2, pl, q2⟩ => thn (hu pins s2 σ H2 _ I2 q2) fun vu s3 ⟨u, H3, I3, pu, q3⟩ => ?_)
 rw [evalPart_none]
 refine wpAny_pure ?_
 have I4 : Inv X pins σ H3 { s3 with heap := s3.heap.push { cls := .type "slice", data := .fields #[vl, vu, .none] } } := I3.kept (t' := s3.toks) fun b ob q => Heap.get?_push_of_some _ q
 obtain ⟨T, id, hT, ht, hg⟩ := hr pins { s3 with heap := s3.heap.push { cls := .type "slice", data := .fields #[vl, vu, .none] } } σ H3 x v vl vu l u s3.heap.objs.size Q I4 r1 (Heap.IsSliceOf.new ..) pl pu q3
 show wpAny (model X.prog X.w) X.A (subscriptTail e (.Slice lo hi none p2) v (.ref s3.heap.objs.size)) (EP X pins σ Q) X.xe { s3 with heap := s3.heap.push { cls := .type "slice", data := .fields #[vl, vu, .none] } }
 exact tail_any (ops := [.ref s3.heap.objs.size, v]) ht hT hg (by with_unfolding_all rfl)
def JD (xs : List V) (lo hi : Option Int) : List V := (xs.drop (HT.sIx xs.length 0 lo)).take (HT.sIx xs.length xs.length hi - HT.sIx xs.length 0 lo)
theorem kL (xs : List V) (lo hi : Option Int) : (JD xs lo hi).length <= xs.length := by
 unfold JD
 rw [List.length_take, List.length_drop]
 omega
def Pm (K : W.Frag) : V -> Option Int -> Option Int -> Hp -> VK -> Prop := fun x lo hi H Q => ∃ a xs, x = .ref a /\ SqT K H a xs ∧
 ¬ (HT.sIx xs.length 0 lo = 0 /\ HT.sIx xs.length xs.length hi = xs.length) /\ ∀ p, H p = none -> Q (.ref p) (upd H p (.tup (JD xs lo hi)))
theorem Dh : SlR X (Pm X.K) := by
 intro pins s σ H x v vl vu lo hi sl Q I rx hs pl pu h
 obtain ⟨a, xs, rfl, hx, hw, q⟩ := h
 cases rx
 obtain ⟨its, r, ht, hz⟩ := I.tuple hx
 have hlen : its.toArray.size = xs.length := by rw [g0p]; exact r.length.symm
 refine ⟨"tuple", _, PyProof.Rows.slot_tuple_getitem.lookup, ht.typeIs, ?_⟩
 refine HT.getItem_tuple_cut ht hs pl pu (by rw [hlen]; exact hw) ?_ (by rw [hlen]; exact hz)
 rw [hlen]
 refine ⟨.ref s.heap.objs.size, _, I.laid (t' := s.toks) (o := .tup (JD xs lo hi)) (fun b ob q => Heap.get?_push_of_some _ q) (g0r _) ?_, rfl, q _ (I.hok.fresh (g0r _))⟩
 exact ⟨g1x (kL xs lo hi) hz, _, (r.drop (HT.sIx xs.length 0 lo)).take (HT.sIx xs.length xs.length hi - HT.sIx xs.length 0 lo), IsTup.new _ _⟩
def M7 (K : W.Frag) : R2 := fun x y H Q => ∃ a b xs ys, x = .ref a /\ y = .ref b /\ SqT K H a xs /\ SqT K H b ys /\ xs ≠ [] /\ xs.length + ys.length <= sizeLine ∧
 (ys = [] -> Q (.ref a) H) /\ (ys ≠ [] -> ∀ p, H p = none -> Q (.ref p) (upd H p (.tup (xs ++ ys))))
theorem yP.nil_iff {xs : List V} {us : List Value} (r : yP xs us) : us = [] ↔ xs = [] := by
 cases r with
 | nil => simp
 | cons _ _ => simp
theorem Bv : OpR X (binaryOp .Add) (M7 X.K) := by
 intro pins s σ H x y v u Q I rx ry h
 obtain ⟨a, b, xs, ys, rfl, rfl, ha, hb, hx, hz, q1, q2⟩ := h
 cases rx
 cases ry
 obtain ⟨its, r1, p1, _⟩ := I.tuple ha
 obtain ⟨its2, r2, p2, _⟩ := I.tuple hb
 refine HT.cat_tup p1 p2 (fun z => hx (r1.nil_iff.mp z)) (fun z => ⟨.ref a, H, I, rfl, q1 (r2.nil_iff.mp z)⟩) (fun z => ?_) (by rw [<- r1.length, <- r2.length]; exact hz)
 refine ⟨.ref s.heap.objs.size, _, I.laid (t' := s.toks) (o := .tup (xs ++ ys)) (fun b ob q => Heap.get?_push_of_some _ q) (g0r _) ?_, rfl, q2 (fun w => z (r2.nil_iff.mpr w)) _ (I.hok.fresh (g0r _))⟩
 exact ⟨by rw [g0h]; exact hz, _, r1.append r2, IsTup.new _ _⟩
end
def ixN (n : Nat) (i : Int) : Option Nat := if 0 <= i then (if i < n then some i.toNat else none) else if -(n : Int) <= i then some (i + n).toNat else none
def atI {α : Type} (xs : List α) (i : Int) : Option α := (ixN xs.length i).bind fun j => xs[j]?
theorem QY {n : Nat} {i : Int} {j : Nat} (h : ixN n i = some j) : seqIndex? i n = some j /\ j < n /\ -(n : Int) <= i /\ i < n := by
 unfold ixN at h
 by_cases h0 : 0 <= i
 ·rw [if_pos h0] at h
  by_cases h1 : i < n
  ·rw [if_pos h1] at h
   have e : i.toNat = j := g2h.inj h
   exact ⟨by rw [seqIndex_of h0 h1, e], by omega, by omega, h1⟩
  ·rw [if_neg h1] at h; cases h
 ·rw [if_neg h0] at h
  by_cases h1 : -(n : Int) <= i
  ·rw [if_pos h1] at h
   have e : (i + n).toNat = j := g2h.inj h
   exact ⟨by rw [seqIndex_neg (by omega) h1, e], by omega, h1, by omega⟩
  ·rw [if_neg h1] at h; cases h
theorem WC {α : Type} {xs : List α} {i : Int} {v : α} (h : atI xs i = some v) : ∃ j, seqIndex? i xs.length = some j /\ xs[j]? = some v /\ j < xs.length /\ -(xs.length : Int) <= i /\ i < xs.length := by
 unfold atI at h
 cases e : ixN xs.length i with
 | none => rw [e] at h; cases h
 | some j =>
  rw [e] at h
  obtain ⟨h1, h2, h3, h4⟩ := QY e
  exact ⟨j, h1, h, h2, h3, h4⟩
theorem js {α : Type} {xs : List α} {j : Nat} {v : α} (h : xs[j]? = some v) : atI xs (j : Int) = some v := by
 have hj : j < xs.length := (g1a.mp h).1
 have e : ixN xs.length (j : Int) = some j := by
  unfold ixN
  rw [if_pos (by omega), if_pos (by omega)]; simp
 unfold atI; rw [e]; exact h
def WD (b : Expr) : Prop := ∀ o i, subscripted b false o i = operate [o, i] (getItem o i)
def IxR (X : Cx) (r : R2) : Prop :=
 ∀ (value slice : Expr) (pins : List (Addr × Obj)) (s : Shared) (σ : St) (H : Hp) (x y : V) (v u : Value) (Q : VK), Inv X pins σ H s -> yV x v -> yV y u -> r x y H Q →
  subscripted slice false v u = operate [v, u] (getItem v u) -> wpAny (model X.prog X.w) X.A (subscriptTail value slice v u) (EP X pins σ Q) X.xe s
def MtR (X : Cx) (id : String) (r : V -> List V -> Hp -> VK -> Prop) : Prop :=
 ∀ (pins : List (Addr × Obj)) (s : Shared) (σ : St) (H : Hp) (x : V) (xs : List V) (v : Value) (us : List Value) (Q : VK), Inv X pins σ H s -> yV x v -> yP xs us -> r x xs H Q →
  wpAny (model X.prog X.w) X.A (call (.builtin id) (v :: us)) (EP X pins σ Q) X.xe s
section
variable {X : Cx} {a b : Expr} {ta tb : TE} {pos : Pos}
theorem IxR.or {r r' : R2} (h : IxR X r) (h' : IxR X r') : IxR X (fun x y H Q => r x y H Q \/ r' x y H Q) := by
 intro value slice pins s σ H x y v u Q I rx ry q hs
 rcases q with q | q
 ·exact h value slice pins s σ H x y v u Q I rx ry q hs
 ·exact h' value slice pins s σ H x y v u Q I rx ry q hs
theorem Nb {r : R2} (hr : IxR X r) (ha : PE X a ta) (hb : PE X b tb) (hs : WD b) : PE X (.Subscript a b pos) (tOp r ta tb) := by
 intro pins s σ H Q I h
 exact Subscript_ (ND ha hb I h fun v u s2 x y H2 I2 rx ry q => hr a b pins s2 σ H2 x y v u Q I2 rx ry q (hs _ _))
def NY (K : W.Frag) : R2 := fun x y H Q => ∃ p xs i v, x = .ref p /\ y = .int i /\ SqL K H p xs /\ atI xs i = some v /\ Q v H
def NW (K : W.Frag) : R2 := fun x y H Q => ∃ p xs i v, x = .ref p /\ y = .int i /\ SqT K H p xs /\ atI xs i = some v /\ Q v H
def NX : R2 := fun x y H Q => ∃ z i c, x = .str z /\ y = .int i /\ z.length <= sizeLine /\ atI z.cps.toList i = some c /\ Q (.str ⟨#[c]⟩) H
theorem BZ : IxR X (NY X.K) := by
 intro value slice pins s σ H x y v u Q I rx ry h hs
 obtain ⟨p, xs, i, z, rfl, rfl, hq, he, q⟩ := h
 cases rx
 obtain ⟨t, rfl⟩ := ry
 obtain ⟨its, r, pl, hz⟩ := I.list hq
 obtain ⟨j, h1, h2, h3, h4, h5⟩ := WC he
 obtain ⟨w, ew, rw'⟩ := r.get h2
 have hl := r.length
 have hn := jG
 have fin : EP X pins σ Q w s := ⟨z, H, I, rw', q⟩
 by_cases h0 : 0 <= i
 ·have hj : i.toNat = j := by
   rw [seqIndex_of h0 h5] at h1
   exact g2h.inj h1
  exact item_listR pl.isList h0 (by omega) (by rw [hj]; simpa using ew) fin hs
 ·have hj : (i + (its.toArray.size : Int)).toNat = j := by
   rw [seqIndex_neg (by omega) h4] at h1
   rw [g0p, <- hl]
   exact g2h.inj h1
  exact subscriptTail_builtinR (x := w) pl.isList.typeIs slot_list_getitem.lookup
   (wpAny_getItem_list_neg (Q := fun r s' => r = w /\ EP X pins σ Q r s') pl.isList (by omega) (by rw [g0p] <;> omega) (by omega) (by rw [hj]; simpa using ew) ⟨rfl, fin⟩) hs
theorem FD : IxR X (NW X.K) := by
 intro value slice pins s σ H x y v u Q I rx ry h hs
 obtain ⟨p, xs, i, z, rfl, rfl, hq, he, q⟩ := h
 cases rx
 obtain ⟨t, rfl⟩ := ry
 obtain ⟨its, r, pl, hz⟩ := I.tuple hq
 obtain ⟨j, h1, h2, h3, h4, h5⟩ := WC he
 obtain ⟨w, ew, rw'⟩ := r.get h2
 have hl := r.length
 have hn := jG
 have fin : EP X pins σ Q w s := ⟨z, H, I, rw', q⟩
 exact subscriptTail_builtinR (x := w) pl.typeIs slot_tuple_getitem.lookup
  (getItem_tuple (j := j) (Q := fun r s' => r = w /\ EP X pins σ Q r s') pl (by omega) (by omega) (by rw [g0p, <- hl]; exact h1) (by simpa using ew) ⟨rfl, fin⟩) hs
theorem FF : IxR X NX := by
 intro value slice pins s σ H x y v u Q I rx ry h hs
 obtain ⟨z, i, c, rfl, rfl, hz, he, q⟩ := h
 obtain ⟨t, rfl⟩ := rx
 obtain ⟨t', rfl⟩ := ry
 obtain ⟨j, h1, h2, h3, h4, h5⟩ := WC he
 have hl : z.cps.toList.length = z.length := by simp [Str.length]
 rw [hl] at h1 h4 h5
 have hn := jG
 exact tail_any (typeIs_str s z t) slot_str_getitem.lookup (getItem_str (c := c) (by
  have e1 : decide (i < -(2 ^ 63 : Int)) = false := decide_eq_false (by omega)
  have e2 : decide (i ≥ 2 ^ 63) = false := decide_eq_false (by omega)
  rw [e1, e2, Bool.or_false]) (by rw [h1]; simpa using h2) ⟨.str ⟨#[c]⟩, H, I.tok _, ⟨_, rfl⟩, q⟩) hs
def rIx (K : W.Frag) : R2 := fun x y H Q => NY K x y H Q \/ NW K x y H Q \/ NX x y H Q
theorem FH : IxR X (rIx X.K) := BZ.or (FD.or FF)
theorem Ur (its : List Value) (n j : Nat) (u : Value) : Obj.mapSeq (·.setIfInBounds j u) { cls := .type "list", data := .seq its.toArray n } = { cls := .type "list", data := .seq (its.set j u).toArray n } := by
 simp [Obj.mapSeq]
theorem Inv.lst {pins : List (Addr × Obj)} {σ : St} {H : Hp} {s : Shared} {p : Addr} {xs : List V} (I : Inv X pins σ H s) (h : H p = some (.lst xs)) :
  ∃ (its : List Value) (n : Nat), yP xs its /\ s.heap.get? p = some { cls := .type "list", data := .seq its.toArray n } /\ xs.length <= sizeLine := by
 obtain ⟨z, its, n, r, e⟩ := I.hok p _ h
 exact ⟨its, n, r, e, z⟩
theorem Inv.lstUpd {pins : List (Addr × Obj)} {σ : St} {H : Hp} {s : Shared} {p : Addr} {xs ys : List V} {its its' : List Value} {n n' : Nat} {f : Obj -> Obj} (I : Inv X pins σ H s) (h : H p = some (.lst xs))
  (ho : s.heap.get? p = some { cls := .type "list", data := .seq its.toArray n }) (hf : f { cls := .type "list", data := .seq its.toArray n } = { cls := .type "list", data := .seq its'.toArray n' }) (r : yP ys its') (hz : ys.length <= sizeLine) (t : Nat) :
  Inv X pins σ (upd H p (.lst ys)) { s with heap := s.heap.update p f, toks := t } := by
 have e : (s.heap.update p f).get? p = some { cls := .type "list", data := .seq its'.toArray n' } := by
  rw [Heap.get?_update_self f ho (by rw [hf] <;> rfl), hf]
 refine I.write (x := p) (e := p) (by rw [h]; trivial) (.inl rfl) (fun b u hb q => (Heap.get?_update_other _ _ (Ne.symm hb)).trans q) ⟨_, e⟩ ?_
 exact ⟨hz, its', n', r, e⟩
def M4 : V -> V -> V -> Hp -> (Hp -> Prop) -> Prop := fun o i v H Q => ∃ p xs k j, o = .ref p /\ i = .int k /\ H p = some (.lst xs) /\ ixN xs.length k = some j /\ Q (upd H p (.lst (xs.set j v)))
theorem Ko : N5 X M4 := by
 intro pins s σ H o i v ov iv u Q I ro ri rv h
 obtain ⟨p, xs, k, j, rfl, rfl, hp, hj, q⟩ := h
 cases ro
 obtain ⟨t, rfl⟩ := ri
 obtain ⟨its, n, r, ho, hz⟩ := I.lst hp
 obtain ⟨h1, h2, h3, h4⟩ := QY hj
 have hl := r.length
 have hn := jG
 have I' : Inv X pins σ (upd H p (.lst (xs.set j v))) { s with heap := s.heap.update p (Obj.mapSeq (·.setIfInBounds j u)) } :=
  I.lstUpd hp ho (Ur its n j u) (r.set rv j) (by rw [g2g]; exact hz) s.toks
 by_cases h0 : 0 <= k
 ·have hk : k.toNat = j := by
   rw [seqIndex_of h0 h4] at h1
   exact g2h.inj h1
  exact PySem.W.ki_setAt ho h0 (by omega) (by rw [g0p, <- hl]; exact h4) (by rw [hk]; exact ⟨_, I', q⟩)
 ·have hk : (k + (its.toArray.size : Int)).toNat = j := by
   rw [seqIndex_neg (by omega) h3] at h1
   rw [g0p, <- hl]
   exact g2h.inj h1
  exact PySem.W.ki_setBack ho (by omega) (by rw [g0p, <- hl]; exact h3) (by omega) (by rw [hk]; exact ⟨_, I', q⟩)
theorem YN (lo hi : Option Int) (n : Nat) : (sliceBounds lo hi none n).1 = ((HT.sIx n 0 lo : Nat) : Int) /\ (sliceBounds lo hi none n).2.1 = ((HT.sIx n n hi : Nat) : Int) /\ (sliceBounds lo hi none n).2.2 = 1 := by
 refine ⟨?_, ?_, rfl⟩
 ·cases lo with
  | none => simp [sliceBounds, HT.sIx]
  | some i =>
   simp only [sliceBounds, HT.sIx, Option.getD_none, show (1 : Int) > 0 by decide, if_true]
   by_cases h : i < 0
   ·simp only [h, if_true] <;> omega
   ·simp only [h, if_false] <;> omega
 ·cases hi with
  | none => simp [sliceBounds, HT.sIx]
  | some i =>
   simp only [sliceBounds, HT.sIx, Option.getD_none, show (1 : Int) > 0 by decide, if_true]
   by_cases h : i < 0
   ·simp only [h, if_true] <;> omega
   ·simp only [h, if_false] <;> omega
theorem Z6 (its : List Value) (lo hi : Option Int) : slicePick its.toArray lo hi none = ((its.drop (HT.sIx its.length 0 lo)).take (HT.sIx its.length its.length hi - HT.sIx its.length 0 lo)).toArray := by
 obtain ⟨h1, h2, h3⟩ := YN lo hi its.toArray.size
 unfold slicePick
 rw [h1, h2, h3]
 simp only [sliceRange_one, pick_run, g0p] <;> rfl
def Pn (K : W.Frag) : V -> Option Int -> Option Int -> Hp -> VK -> Prop := fun x lo hi H Q => ∃ a xs, x = .ref a /\ SqL K H a xs /\ ∀ p, H p = none -> Q (.ref p) (upd H p (.lst (JD xs lo hi)))
theorem HH : SlR X (Pn X.K) := by
 intro pins s σ H x v vl vu lo hi sl Q I rx hs pl pu h
 obtain ⟨a, xs, rfl, hx, q⟩ := h
 cases rx
 obtain ⟨its, r, ht, hz⟩ := I.list hx
 have hlen := r.length
 refine ⟨"list", _, slot_list_getitem.lookup, ht.isList.typeIs, ?_⟩
 refine wpAny_getItem_list_slice ht.isList hs pl pu .none (by simp) ?_ (by rw [g0p] <;> omega)
 rw [Z6, <- hlen]
 refine ⟨.ref s.heap.objs.size, _, I.laid (t' := s.toks) (o := .lst (JD xs lo hi)) (fun b ob q => Heap.get?_push_of_some _ q) (g0r _) ?_, rfl, q _ (I.hok.fresh (g0r _))⟩
 exact ⟨g1x (kL xs lo hi) hz, _, 0, (r.drop (HT.sIx xs.length 0 lo)).take (HT.sIx xs.length xs.length hi - HT.sIx xs.length 0 lo), Heap.get?_push_size _ rfl⟩
theorem Xy : w6 X (.builtin "len") (fun xs H Q => ∃ p ys, xs = [.ref p] /\ (SqL X.K H p ys \/ SqT X.K H p ys) /\ Q (.int ys.length) H) := by
 intro pins s σ H xs us Q I r h
 obtain ⟨p, ys, rfl, hq, q⟩ := h
 obtain ⟨u, rfl, rx⟩ := Zi r
 cases rx
 have hn := jG
 rcases hq with hq | hq
 ·obtain ⟨its, r', pl, hz⟩ := I.list hq
  have hlen := r'.length
  exact Calls.call_len_list pl.isList (by simp only [g0p] <;> omega) ⟨.int ys.length, H, I.tok _, ⟨s.toks + 1, by rw [g0p, hlen]⟩, q⟩
 ·obtain ⟨its, r', pl, hz⟩ := I.tuple hq
  have hlen := r'.length
  exact len_tuple pl (by simp only [g0p] <;> omega) ⟨.int ys.length, H, I.tok _, ⟨s.toks + 1, by rw [g0p, hlen]⟩, q⟩
theorem Xx : w6 X (.builtin "len") (fun xs H Q => ∃ z, xs = [.str z] /\ z.length <= sizeLine /\ Q (.int z.length) H) := by
 intro pins s σ H xs us Q I r h
 obtain ⟨z, rfl, hz, q⟩ := h
 obtain ⟨u, rfl, t, rfl⟩ := Zi r
 have hn := jG
 exact len_str (by omega) ⟨.int z.length, H, I.tok _, ⟨_, rfl⟩, q⟩
theorem w6.or {f : Value} {r r' : List V -> Hp -> VK -> Prop} (h : w6 X f r) (h' : w6 X f r') : w6 X f (fun xs H Q => r xs H Q \/ r' xs H Q) := by
 intro pins s σ H xs us Q I rs q
 rcases q with q | q
 ·exact h pins s σ H xs us Q I rs q
 ·exact h' pins s σ H xs us Q I rs q
theorem Xw : w6 X (.type "list") (fun xs H Q => ∃ p ys, xs = [.ref p] /\ (SqL X.K H p ys \/ SqT X.K H p ys) /\ ∀ l, H l = none -> Q (.ref l) (upd H l (.lst ys))) := by
 intro pins s σ H xs us Q I r h
 obtain ⟨p, ys, rfl, hq, q⟩ := h
 obtain ⟨u, rfl, rx⟩ := Zi r
 cases rx
 have fin : ∀ (its : List Value), yP ys its -> ys.length <= sizeLine -> ∀ (h' : Heap) (c' : Nat), (∀ b o', s.heap.get? b = some o' -> h'.get? b = some o') →
   h'.get? s.heap.objs.size = some { cls := .type "list", dict := none, data := .seq its.toArray c', slots := #[] } -> EP X pins σ Q (.ref s.heap.objs.size) { s with heap := h' } := fun its r' hz h' c' kp e =>
  ⟨.ref s.heap.objs.size, _, I.laid (t' := s.toks) kp (g0r _) (show we X.prog X.w _ h' _ (.lst ys) from ⟨hz, its, c', r', e⟩), rfl, q _ (I.hok.fresh (g0r _))⟩
 rcases hq with hq | hq
 ·obtain ⟨its, r', pl, hz⟩ := I.list hq
  have hlen := r'.length
  obtain ⟨o, ho, hc, n, hd⟩ := pl.isList
  exact call_list_seq p (.inl rfl) ho hc hd (fun h' c' kp e => fin its r' hz h' c' kp e) (by simp only [g0p] <;> omega)
 ·obtain ⟨its, r', pl, hz⟩ := I.tuple hq
  have hlen := r'.length
  obtain ⟨o, ho, hc, n, hd⟩ := pl
  exact call_list_seq p (.inr rfl) ho hc hd (fun h' c' kp e => fin its r' hz h' c' kp e) (by simp only [g0p] <;> omega)
theorem wF : w6 X (.type "tuple") (fun xs H Q => ∃ p ys, xs = [.ref p] /\ ((SqL X.K H p ys /\ ∀ l, H l = none -> Q (.ref l) (upd H l (.tup ys))) \/ (SqT X.K H p ys /\ Q (.ref p) H))) := by
 intro pins s σ H xs us Q I r h
 obtain ⟨p, ys, rfl, h⟩ := h
 obtain ⟨u, rfl, rx⟩ := Zi r
 cases rx
 rcases h with ⟨hq, q⟩ | ⟨hq, q⟩
 ·obtain ⟨its, r', pl, hz⟩ := I.list hq
  have hlen := r'.length
  refine call_tuple_list pl.isList (fun h' kp => ?_) (by simp only [g0p] <;> omega)
  have I1 : Inv X pins σ H { s with heap := h' } := I.kept (t' := s.toks) kp
  have I2 : Inv X pins σ (upd H h'.objs.size (.tup ys)) { s with heap := h'.push { cls := .type "tuple", data := .seq its.toArray } } :=
   I1.laid (t' := s.toks) (fun b o e => Heap.get?_push_of_some _ e) (g0r _) (show we X.prog X.w _ _ _ (.tup ys) from ⟨hz, its, r', IsTup.new _ _⟩)
  exact ⟨.ref h'.objs.size, _, I2, rfl, q _ (I1.hok.fresh (g0r _))⟩
 ·obtain ⟨its, r', pl, hz⟩ := I.tuple hq
  exact call_tuple_same pl ⟨.ref p, H, I, rfl, q⟩
def tyV (K : W.Frag) (T : String) (x : V) (H : Hp) : Prop := match x with
 | .str _ => T = "str"
 | .int _ => T = "int"
 | .ref p => (T = "list" /\ ∃ xs, SqL K H p xs) \/ (T = "tuple" /\ ∃ o, K.lookup p = some o /\ o.cls = .type "tuple" /\ o.dict = none) ∨
   (T = "dict" /\ ((∃ kvs, H p = some (.dK kvs)) \/ ∃ kvs, H p = some (.dT kvs))) \/ (T = "set" /\ ∃ S n, H p = some (.set S n))
 | _ => False
theorem C9 {pins : List (Addr × Obj)} {σ : St} {H : Hp} {s : Shared} {T : String} {x : V} {v : Value} (I : Inv X pins σ H s) (r : yV x v) (ty : tyV X.K T x H) :
  s.TypeIs v T /\ ∀ a, v = .ref a -> ∃ ob, s.heap.get? a = some ob /\ ob.dict = none := by
 cases x with
 | str z =>
  obtain ⟨t, rfl⟩ := r
  cases (show T = "str" from ty)
  exact ⟨typeIs_str s z t, fun _ e => nomatch e⟩
 | int i =>
  obtain ⟨t, rfl⟩ := r
  cases (show T = "int" from ty)
  exact ⟨typeIs_int s i t, fun _ e => nomatch e⟩
 | ref p =>
  cases r
  rcases ty with ⟨rfl, xs, hq⟩ | ⟨rfl, o, hk, hc, hd⟩ | ⟨rfl, hk⟩ | ⟨rfl, S, n, hk⟩
  ·obtain ⟨its, _, pl, _⟩ := I.list hq
   refine ⟨pl.isList.typeIs, fun a e => ?_⟩
   cases e
   obtain ⟨o, n, e, c, hd, _⟩ := pl
   exact ⟨o, e, hd⟩
  ·refine ⟨⟨o, I.kIn p o hk, hc⟩, fun a e => ?_⟩
   cases e
   exact ⟨o, I.kIn _ o hk, hd⟩
  ·have z : ∃ o, s.heap.get? p = some o /\ o.ExactDict := by
    rcases hk with ⟨kvs, hk⟩ | ⟨kvs, hk⟩
    ·obtain ⟨_, _, _, _, o, _, _, e, ex, _⟩ := I.hok p _ hk
     exact ⟨o, e, ex⟩
    ·obtain ⟨_, _, _, _, o, _, _, e, ex, _⟩ := I.hok p _ hk
     exact ⟨o, e, ex⟩
   obtain ⟨o, e, ex⟩ := z
   refine ⟨⟨o, e, ex.1⟩, fun a e2 => ?_⟩
   cases e2
   exact ⟨o, e, ex.2.1⟩
  ·obtain ⟨o, _, _, _, e, ex, _⟩ := I.hok p _ hk
   refine ⟨⟨o, e, ex.1⟩, fun a e2 => ?_⟩
   cases e2
   exact ⟨o, e, ex.2.1⟩
 | _ => exact False.elim ty
def tBM (K : W.Frag) (T : String) (r : V -> List V -> Hp -> VK -> Prop) (to : TE) (t : TA) : TE := fun σ H Q => to σ H fun x H1 => tyV K T x H1 /\ t σ H1 fun xs H2 => r x xs H2 Q
variable {o e : Expr} {es : List Expr} {to : TE} {t : TA} {name : Str} {apos cpos : Pos} {T id : String} {r : V -> List V -> Hp -> VK -> Prop}
theorem D6 (pa : PlainAttrs T) (slot : Slot T name id) (hty : typeOf (.builtin id) = pure (.type "method_descriptor")) (hm : MtR X id r) (ho : PE X o to) (ha : PA X (e :: es) t)
  (hbase : attributeBase o name X.env (eval o X.env) = eval o X.env := by rfl)
  (hfew : ((backTo cpos (starEach (e :: es) X.env)).all (fun x => !x.1) && (backToKw cpos (keywordEach [] X.env)).all (fun x => x.1.isSome)
   && decide ((e :: es).length + ([] : List Keyword).length + (if ([] : List Keyword).isEmpty then 0 else 1) < 30)) = true := by rfl)
  (hline : (apos.endLine == cpos.line) = true := by rfl) (hs : starEach (e :: es) X.env = (false, eval e X.env) :: starEach es X.env := by rfl) (hplain : (backTo cpos (starEach es X.env)).any (·.1) = false := by rfl) :
  PE X (.Call (.Attribute o name apos) (e :: es) [] cpos) (tBM X.K T r to t) := by
 intro pins s σ H Q I h
 refine wpAny_Call_method_late hbase hfew hline rfl (thn (ho pins s σ H _ I h) fun v s1 ⟨x, H1, I1, r1, ty, q1⟩ => ?_)
 obtain ⟨h1, h2⟩ := C9 I1 r1 ty
 refine ⟨T, id, pa, slot, hty, h1, h2, ?_⟩
 have hA := ha cpos pins s1 σ H1 _ I1 q1
 rw [hs] at hA ⊢
 refine Calls.callWith_builtin (by show (false || (backTo cpos (starEach es X.env)).any (·.1)) = false; rw [hplain] <;> rfl) (Calls.evalArgs_plain ?_)
 exact thn hA fun us s2 ⟨vs, H2, I2, r2, q2⟩ => hm pins s2 σ H2 x vs v us Q I2 r1 r2 q2
end
def MtM (X : Cx) (id : String) (r : V -> List V -> Hp -> VK -> Prop) : Prop :=
 ∀ (pins : List (Addr × Obj)) (s : Shared) (σ : St) (H : Hp) (x : V) (xs : List V) (v : Value) (us : List Value) (Q : VK), Inv X pins σ H s -> yV x v -> yP xs us -> r x xs H Q →
  wpAny (model X.prog X.w) X.A (call (.builtin id) (v :: us)) (EP X pins σ Q) X.xe s
theorem yP.one : ∀ {x : V} {us : List Value}, yP [x] us -> ∃ u, us = [u] /\ yV x u
 | _, _, .cons r .nil => ⟨_, rfl, r⟩
theorem yP.rep {xs : List V} {us : List Value} (h : yP xs us) : ∀ k : Nat, yP (g0e k xs).flatten (g0e k us).flatten
 | 0 => .nil
 | k + 1 => by
  rw [g1p, g1p, g2i, g2i]
  exact yP.append h (yP.rep h k)
theorem kG (its : List Value) : ∀ (k : Nat) (acc : List Value),
  List.foldl (fun x1 x2 => x1 ++ x2) acc.toArray (g0e k its.toArray) = (acc ++ (g0e k its).flatten).toArray
 | 0, acc => by simp
 | k + 1, acc => by
  have e : acc.toArray ++ its.toArray = (acc ++ its).toArray := by simp
  have e2 : (acc ++ its) ++ (g0e k its).flatten = acc ++ (g0e (k + 1) its).flatten := by
   rw [g1p, g2i, g1b]
  rw [<- e2, <- kG its k (acc ++ its), <- e, g1p, List.foldl_cons]
section
variable {X : Cx} {pins : List (Addr × Obj)} {σ : St} {H : Hp} {s : Shared} {l b : Addr} {xs ys zs : List V}
theorem Inv.lset {its its' : List Value} {n : Nat} {f : Array Value -> Array Value} {t' : Nat} (I : Inv X pins σ H s) (hH : H l = some (.lst xs))
  (e : s.heap.get? l = some { cls := .type "list", data := .seq its.toArray n }) (hf : f its.toArray = its'.toArray) (hv : yP ys its') (hz : ys.length <= sizeLine) :
  Inv X pins σ (upd H l (.lst ys)) { s with heap := s.heap.update l (Obj.mapSeq f), toks := t' } := by
 have q := PySem.IsL.update e f
 rw [hf] at q
 refine I.write (x := l) (e := l) (by rw [hH]; exact trivial) (.inl rfl) (fun b' u hb hu => (Heap.get?_update_other s.heap (Obj.mapSeq f) (Ne.symm hb)).trans hu) ⟨_, q⟩ ?_
 exact ⟨hz, its', _, hv, q⟩
theorem Inv.lnew {its : List Value} {t' : Nat} (I : Inv X pins σ H s) (hv : yP ys its) (hz : ys.length <= sizeLine) :
  Inv X pins σ (upd H s.heap.objs.size (.lst ys)) { s with heap := s.heap.push { cls := .type "list", data := .seq its.toArray }, toks := t' } :=
 I.laid (fun _ _ q => Heap.get?_push_of_some _ q) (g0r _) ⟨hz, its, 0, hv, Heap.get?_push_size _ rfl⟩
theorem Inv.fresh (I : Inv X pins σ H s) : H s.heap.objs.size = none := I.hok.fresh (g0r _)
theorem Inv.lstM (I : Inv X pins σ H s) (hH : H l = some (.lst xs)) : xs.length <= sizeLine /\ ∃ (its : List Value) (n : Nat), yP xs its /\ xs.length = its.length /\ s.heap.get? l = some { cls := .type "list", data := .seq its.toArray n } := by
 obtain ⟨z, its, n, r, e⟩ := I.hok l _ hH
 exact ⟨z, its, n, r, r.length, e⟩
theorem K4 {n : Nat} (h : n <= sizeLine) : Builtin.List.listTooLong n = false := by
 unfold Builtin.List.listTooLong
 exact decide_eq_false (by omega)
end
section
variable {X : Cx}
def Ba : V -> List V -> Hp -> VK -> Prop := fun x vs H Q => ∃ l xs y, x = .ref l /\ vs = [y] /\ H l = some (.lst xs) /\ xs.length < sizeLine /\ Q .non (upd H l (.lst (xs ++ [y])))
theorem Y6 : MtM X "list.append" Ba := by
 intro pins s σ H x vs v us Q I rx rv h
 obtain ⟨l, xs, y, rfl, rfl, hH, hz, q⟩ := h
 cases rx
 obtain ⟨u, rfl, ru⟩ := rv.one
 obtain ⟨z, its, n, r, hl, e⟩ := I.lstM hH
 refine call_meets F.slot_list_append ⟨_, e, rfl⟩ F.entry_list_append (F.args_list_append_2 _ _) (PySem.list_append l its.toArray n u (by rw [g0p]; omega)) ⟨e, ?_⟩
 refine ⟨.non, _, I.lset (its' := its ++ [u]) hH e (by simp) (r.append (.cons ru .nil)) ?_, rfl, q⟩
 rw [g0h, g1h]
 omega
theorem QN {α : Type} (xs : List α) (k : Nat) : (g0e k xs).flatten.length = k * xs.length := by
 induction k with
 | zero => simp
 | succ k ih => rw [g1p, g2i, g0h, ih, Nat.succ_mul, Nat.add_comm]
end
section
variable {prog : Program} {w : World} {A : Around} {E : Value -> Shared -> Prop} {s : Shared}
end
section
variable {X : Cx}
end
section
variable {κ : Type} [DecidableEq κ]
def JZ (kvs : List (κ × V)) (k : κ) : Option V := (kvs.find? fun kv => decide (kv.1 = k)).map (·.2)
def V9 (kvs : List (κ × V)) (k : κ) (v : V) : List (κ × V) :=
 if (kvs.any fun kv => decide (kv.1 = k)) = true then kvs.map (fun kv => if kv.1 = k then (kv.1, v) else kv) else kvs ++ [(k, v)]
theorem WQ {p : κ × V} {r : List (κ × V)} {k : κ} (e : p.1 = k) : JZ (p :: r) k = some p.2 := by simp [JZ, g2n, e]
theorem WR {p : κ × V} {r : List (κ × V)} {k : κ} (e : ¬ p.1 = k) : JZ (p :: r) k = JZ r k := by simp [JZ, g2n, e]
theorem WT (k : κ) : ∀ kvs : List (κ × V), (kvs.any fun kv => decide (kv.1 = k)) = (JZ kvs k).isSome
 | [] => rfl
 | p :: r => by
  rw [g2p]
  by_cases e : p.1 = k
  ·simp only [WQ e, decide_eq_true e, Bool.true_or, Option.isSome_some]
  ·rw [WR e, decide_eq_false e, Bool.false_or]; exact WT k r
theorem kl (kvs : List (κ × V)) (k : κ) (v : V) : (V9 kvs k v).length <= kvs.length + 1 := by
 unfold V9
 split
 ·rw [g0k]; omega
 ·rw [g0h, g0d, g0m]; omega
theorem CS.isSome_eq {o : Option V} {u : Option Value} (r : CS o u) : o.isSome = u.isSome := by
 cases o with
 | none => cases u with
  | none => rfl
  | some _ => exact (show False from r).elim
 | some _ => cases u with
  | none => exact (show False from r).elim
  | some _ => rfl
theorem CS.getD {o : Option V} {u : Option Value} {d : V} {d' : Value} (r : CS o u) (rd : yV d d') : yV (o.getD d) (u.getD d') := by
 cases o with
 | none => cases u with
  | none => exact rd
  | some _ => exact (show False from r).elim
 | some _ => cases u with
  | none => exact (show False from r).elim
  | some _ => exact r
theorem KV.any {kvs : List (κ × V)} {vs : List (κ × Value)} (r : KV kvs vs) (k : κ) : (kvs.any fun kv => decide (kv.1 = k)) = vs.any fun kv => decide (kv.1 = k) := by
 unfold KV at r
 induction r with
 | nil => rfl
 | cons h t ih => rw [g2p, g2p, ih, h.1]
theorem KV.repl {kvs : List (κ × V)} {vs : List (κ × Value)} (r : KV kvs vs) (k : κ) {y : V} {u : Value} (ry : yV y u) :
  KV (kvs.map fun kv => if kv.1 = k then (kv.1, y) else kv) (vs.map fun kv => if kv.1 = k then (kv.1, u) else kv) := by
 unfold KV at r ⊢
 induction r with
 | nil => exact .nil
 | @cons p q ps qs h t ih =>
  rw [g0f, g0f]
  refine .cons ?_ ih
  obtain ⟨h1, h2⟩ := h
  by_cases e : p.1 = k
  ·rw [if_pos e, if_pos (h1.symm.trans e)]; exact ⟨h1, ry⟩
  ·rw [if_neg e, if_neg (fun z => e (h1.trans z))]; exact ⟨h1, h2⟩
theorem KV.put {kvs : List (κ × V)} {vs : List (κ × Value)} (r : KV kvs vs) (k : κ) {y : V} {u : Value} (ry : yV y u) : KV (V9 kvs k y) (stored vs k u) := by
 unfold V9 stored
 rw [r.any k]
 by_cases e : (vs.any fun kv => decide (kv.1 = k)) = true
 ·rw [if_pos e, if_pos e]; exact r.repl k ry
 ·rw [if_neg e, if_neg e]; exact Paired.snoc r ⟨rfl, ry⟩
theorem KV.length {kvs : List (κ × V)} {vs : List (κ × Value)} (r : KV kvs vs) : kvs.length = vs.length := Paired.length r
end
theorem FB {P : Program} {w : World} {k : Key} {u : Value} (r : yV (kV k) u) : (xj P w).is k u = true := by
 cases k with
 | inl i => obtain ⟨t, e⟩ := (show ∃ t, u = Value.int i t from r); subst e; exact Wg P w i t
 | inr x => obtain ⟨t, e⟩ := (show ∃ t, u = Value.str x t from r); subst e; exact Wf P w x t
theorem ku {P : Program} {w : World} : ∀ {ks : List Key} {us : List Value}, yP (ks.map kV) us -> ItemsAre (xj P w) ks us
 | [], _, r => by rw [g0y] at r; cases r; exact .nil
 | k :: ks, _, r => by
  rw [g0f] at r
  cases r with
  | cons h t => exact .cons (FB h) (ku t)
abbrev KT (H : Hp) : List (List Key × V) -> List (List Key × Addr × Value) -> Prop := Paired fun p q => p.1 = q.1 /\ H q.2.1 = some (.tup (p.1.map kV)) /\ yV p.2 q.2.2
theorem KT.val {H : Hp} {kvs : List (List Key × V)} {xs : List (List Key × Addr × Value)} (r : KT H kvs xs) (k : List Key) : CS (JZ kvs k) ((atKey xs k).map (·.2)) := by
 induction r with
 | nil => exact True.intro
 | @cons p q ps qs h t ih =>
  obtain ⟨h1, _, h2⟩ := h
  by_cases e : p.1 = k
  ·have e' : q.1 = k := h1.symm.trans e
   have b : atKey (q :: qs) k = some q.2 := by simp [atKey, g2n, e']
   rw [WQ e, b]; exact h2
  ·have e' : ¬ q.1 = k := fun z => e (h1.trans z)
   have b : atKey (q :: qs) k = atKey qs k := by simp [atKey, g2n, e']
   rw [WR e, b]; exact ih
theorem KT.repl {H : Hp} {kvs : List (List Key × V)} {xs : List (List Key × Addr × Value)} (r : KT H kvs xs) (k : List Key) {y : V} {u : Value} (ry : yV y u) :
  KT H (kvs.map fun kv => if kv.1 = k then (kv.1, y) else kv) (xs.map (putAt k u)) := by
 induction r with
 | nil => exact .nil
 | @cons p q ps qs h t ih =>
  rw [g0f, g0f]
  refine .cons ?_ ih
  obtain ⟨h1, h2, h3⟩ := h
  unfold putAt
  by_cases e : p.1 = k
  ·rw [if_pos e, if_pos (h1.symm.trans e)]; exact ⟨h1, h2, ry⟩
  ·rw [if_neg e, if_neg (fun z => e (h1.trans z))]; exact ⟨h1, h2, h3⟩
theorem KT.put {H : Hp} {kvs : List (List Key × V)} {xs : List (List Key × Addr × Value)} (r : KT H kvs xs) (k : List Key) {b : Addr} {y : V} {u : Value} (hb : H b = some (.tup (k.map kV))) (ry : yV y u) :
  KT H (V9 kvs k y) (storedH xs k b u) := by
 have e : (kvs.any fun kv => decide (kv.1 = k)) = (atKey xs k).isSome := by
  rw [WT, (r.val k).isSome_eq, Option.isSome_map]
 unfold V9 storedH
 rw [e]
 by_cases q : (atKey xs k).isSome = true
 ·rw [if_pos q, if_pos q]; exact r.repl k ry
 ·rw [if_neg q, if_neg q]; exact Paired.snoc r ⟨rfl, hb, ry⟩
theorem KT.keeps {H H' : Hp} {kvs : List (List Key × V)} {xs : List (List Key × Addr × Value)} (r : KT H kvs xs) (ht : ∀ b ys, H b = some (.tup ys) -> H' b = some (.tup ys)) : KT H' kvs xs :=
 Paired.mapP r fun _ _ z => ⟨z.1, ht _ _ z.2.1, z.2.2⟩
section
variable {P : Program} {w : World} {H : Hp} {h : Heap} {a : Addr}
theorem Dx {u : HO} (ok : HOk P w H h) (e : Rd H a u) : we P w H h a u := e.ok ok
theorem Ma {kvs : List (Key × V)} (ok : HOk P w H h) (e : Rd H a (.dK kvs)) : kvs.length <= sizeLine /\ (a == sysModules) = false /\ ∃ vs, KV kvs vs /\ h.DictOf (xj P w) a vs :=
 show we P w H h a (.dK kvs) from Dx ok e
theorem Nw {kvs : List (Key × V)} (ok : HOk P w H h) (e : H a = some (.dK kvs)) : kvs.length <= sizeLine /\ (a == sysModules) = false /\ ∃ vs, KV kvs vs /\ h.DictOf (xj P w) a vs := Ma ok (.inl e)
theorem Hk {ks : List Key} (ok : HOk P w H h) (e : H a = some (.tup (ks.map kV))) : (tupleKind (xj P w)).is h ks a := by
 obtain ⟨_, its, r, o, h1, h2, n, h3⟩ := (show we P w H h a (.tup (ks.map kV)) from ok a _ e)
 exact ⟨o, its.toArray, n, h1, h2, h3, by simpa using ku r⟩
theorem Cj {kvs : List (List Key × V)} (ok : HOk P w H h) (e : Rd H a (.dT kvs)) : kvs.length <= sizeLine /\ (a == sysModules) = false ∧
  ∃ xs, KT H kvs xs /\ h.DictOfH (tupleKind (xj P w)) a xs := by
 obtain ⟨z, y, xs, r, o, es, ep, h1, h2, h3, h4, h5⟩ := (show we P w H h a (.dT kvs) from Dx ok e)
 refine ⟨z, y, xs, r, o, es, ep, h1, h2, h3, h4, fun x hx => ?_, h5⟩
 have all : ∀ {l : List (List Key × V)} {m : List (List Key × Addr × Value)}, KT H l m -> ∀ x ∈ m, (tupleKind (xj P w)).is h x.1 x.2.1 := by
  intro l m q
  induction q with
  | nil => intro x hx; exact nomatch hx
  | @cons p q ps qs hq t ih =>
   intro x hx
   rcases g0n.mp hx with e | hx
   ·subst e
    exact Hk ok (by rw [<- hq.1]; exact hq.2.1)
   ·exact ih x hx
 exact all r x hx
theorem Nv {kvs : List (List Key × V)} (ok : HOk P w H h) (e : H a = some (.dT kvs)) : kvs.length <= sizeLine /\ (a == sysModules) = false ∧
  ∃ xs, KT H kvs xs /\ h.DictOfH (tupleKind (xj P w)) a xs := Cj ok (.inl e)
end
def C2 (H : Hp) (a : Addr) (y v : V) (H' : Hp) : Prop :=
 (∃ kvs k, H a = some (.dK kvs) /\ y = kV k /\ kvs.length < sizeLine /\ H' = upd H a (.dK (V9 kvs k v))) ∨
 ∃ kvs k b, H a = some (.dT kvs) /\ y = .ref b /\ H b = some (.tup (k.map kV)) /\ kvs.length < sizeLine /\ H' = upd H a (.dT (V9 kvs k v))
theorem C2.t {H : Hp} {a b : Addr} {kvs : List (List Key × V)} {k : List Key} {v : V} (e : H a = some (.dT kvs)) (eb : H b = some (.tup (k.map kV))) (hl : kvs.length < sizeLine) :
  C2 H a (.ref b) v (upd H a (.dT (V9 kvs k v))) := .inr ⟨kvs, k, b, e, rfl, eb, hl, rfl⟩
section
variable {X : Cx} {pins : List (Addr × Obj)} {σ : St} {H : Hp} {s : Shared} {a : Addr} {y v : V} {u r : Value} {o : Option V} {A : Around} {E : Value -> Shared -> Prop}
theorem Inv.big (I : Inv X pins σ H s) : sysModules < s.heap.objs.size := by
 have h : mainGlobals < s.heap.objs.size := (I.mod.glob.keeps I.bk).lt
 exact Nat.lt_trans (by decide) h
theorem Wv {h' : Heap} {t' : Nat} {ob : HO} (I : Inv X pins σ H s) (mu : Mut (H a)) (hs : Heap.SameBut a s.heap h') (he : ∃ q, h'.get? a = some q) (new : we X.prog X.w (upd H a ob) h' a ob) :
  Inv X pins σ (upd H a ob) { s with heap := h', toks := t' } :=
 I.write (x := a) (e := a) mu (.inl rfl) (fun b q hb z => (hs.2 b hb).trans z) he new
theorem Mc {P : Program} {w : World} {H' : Hp} {h' : Heap} {kvs : List (Key × V)} {vs : List (Key × Value)} (z : kvs.length <= sizeLine) (hd : (a == sysModules) = false) (rel : KV kvs vs) (dd : h'.DictOf (xj P w) a vs) :
  we P w H' h' a (.dK kvs) := ⟨z, hd, vs, rel, dd⟩
theorem Jx {H' : Hp} {Q : Unit -> Shared -> Prop} (hu : A.units + 1 < cLine) (I : Inv X pins σ H s) (g : C2 H a y v H') (ry : yV y u) (rv : yV v r) (h : ∀ s', Inv X pins σ H' s' -> Q () s') :
  wpAny (model X.prog X.w) A (setItem (.ref a) u r) Q E s := by
 rcases g with ⟨kvs, k, e, ey, l, eH⟩ | ⟨kvs, k, b, e, ey, eb, l, eH⟩
 ·subst ey eH
  obtain ⟨z, hd, vs, rel, dd⟩ := Nw I.hok e
  have hz : vs.length <= sizeLine := by rw [<- rel.length]; exact z
  have hl : (V9 kvs k v).length <= sizeLine := by have := kl kvs k v; omega
  refine wpAny_setItem_pairs (hsz := hz) (FB ry) dd fun h' dd' hs => h _ ?_
  have he : ∃ q, h'.get? a = some q := let ⟨q, _, _, hq, _⟩ := dd'; ⟨q, hq⟩
  exact Wv I (by rw [e]; exact True.intro) hs he (Mc hl hd (rel.put k rv) dd')
 ·subst ey eH
  cases (show u = Value.ref b from ry)
  obtain ⟨z, hd, xs, rel, dd⟩ := Nv I.hok e
  have hz : xs.length <= sizeLine := by rw [<- Paired.length rel]; exact z
  have hl : (V9 kvs k v).length <= sizeLine := by have := kl kvs k v; omega
  refine wpAny_setItem_heap (hsz := hz) (tupleKind_room_in1 hu) (Hk I.hok eb) dd fun h' dd' hs => h _ ?_
  obtain ⟨q, es, ep, hq, h2, h3, h4, _, h5⟩ := dd'
  refine Wv I (by rw [e]; exact True.intro) hs ⟨q, hq⟩ ⟨hl, hd, _, (rel.put k eb rv).keeps fun c ys ec => ?_, q, es, ep, hq, h2, h3, h4, h5⟩
  rw [zF (Fl ec e (fun z => nomatch z))]
  exact ec
end
section
variable {X : Cx} {pins : List (Addr × Obj)} {σ : St} {H : Hp} {s : Shared} {a : Addr} {kvs : List (Key × V)} {k : Key} {u : Value} {A : Around} {E : Value -> Shared -> Prop}
end
def N6 (i : Expr) : Prop := ∀ ov iv, subscripted i false ov iv = operate [ov, iv] (getItem ov iv)
theorem HF {prog : Program} {w : World} {A : Around} {E : Value -> Shared -> Prop} {s : Shared} {env : Env} {value slice : Expr} {pos : Pos} {T id : String} {Q : Value -> Shared -> Prop}
  (hl : typeLookup (.type T) "__getitem__" = pure (some (.builtin id))) (hs : N6 slice)
  (h : wpAny (model prog w) A (eval value env) (fun o s₁ => wpAny (model prog w) A (eval slice env) (fun i s₂ => s₂.TypeIs o T /\ wpAny (model prog w) A (getItem o i) Q E s₂) E s₁) E s) :
  wpAny (model prog w) A (eval (.Subscript value slice pos) env) Q E s := by
 refine Subscript_ (wpAny_mono h (fun o s₁ h₁ => wpAny_mono h₁ (fun i s₂ h₂ => ?_) fun _ _ x => x) fun _ _ x => x)
 obtain ⟨hT, h₂⟩ := h₂
 unfold subscriptTail
 refine wpAny_bind ?_
 rw [getitemInPython_of_ne hT.not_modules]
 refine wpAny_bind (wpAny_specialOf hT hl ?_)
 have fin : wpAny (model prog w) A (subscripted slice false o i) (fun r s₃ => wpAny (model prog w) A (letTemporaryGo value o r >>= fun _ => pure r) Q E s₃) E s₂ := by
  rw [hs o i]
  exact wpAny_operating (wpAny_mono h₂ (fun r s₃ h₃ => wpAny_bind (wpAny_letTemporaryGo (wpAny_pure h₃))) fun _ _ x => x)
 first
  | exact wpAny_pure (wpAny_bind fin)
  | exact wpAny_bind (wpAny_pure (wpAny_bind fin))
  | exact wpAny_bind fin
def MZ (td ty tv : TE) : TS := fun D σ H => tv σ H fun v H1 => td σ H1 fun x H2 => ty σ H2 fun y H3 => ∃ a H4, x = .ref a /\ C2 H3 a y v H4 /\ D.nx σ H4
section
variable {X : Cx} {o i e value : Expr} {pos pos' tpos : Pos} {td ty tv : TE}
theorem Qj (hu : X.A.units + 1 < cLine) (ho : PE X o td) (hi : PE X i ty) (hv : PE X value tv) (hs : swapsWith value (some (.Subscript o i pos')) pos.line X.env = pure false) :
  PS X (.Assign [.Subscript o i pos'] value pos) (MZ td ty tv) := by
 intro pins s σ H D I h
 refine wpAny_Assign_Subscript (thn (hv pins s σ H _ I h) fun r s1 ⟨v, H1, I1, rv, q1⟩ => thn (ho pins s1 σ H1 _ I1 q1) fun u s2 ⟨x, H2, I2, rx, q2⟩ => thn (hi pins s2 σ H2 _ I2 q2) fun iv s3 ⟨y, H3, I3, ry, a, H4, ex, g, q3⟩ => ?_) hs
 subst ex
 obtain rfl : u = Value.ref a := rx
 exact Jx hu I3 g ry rv fun s4 I4 => ⟨σ, H4, I4, q3⟩
end
theorem GF {P : Program} {w : World} {H : Hp} (h : Heap) (hb : sysModules < h.objs.size) : we P w H (h.push { cls := .type "dict", data := .dict #[] }) h.objs.size (.dT []) :=
 ⟨g2e _, beq_eq_false_iff_ne.mpr (Ne.symm (g1g hb)), [], .nil, _, #[], 0, Heap.get?_push_size _ rfl, ⟨rfl, rfl, rfl⟩, rfl, rfl, List.nodup_nil⟩
def Df : TE := fun _ H Q => ∀ p, H p = none -> Q (.ref p) (upd H p (.dT []))
section
variable {X : Cx} {pos : Pos}
theorem KJ : PE X (.Dict [] [] pos) Df := fun pins s σ H Q I h =>
 wpAny_Dict_empty ⟨.ref s.heap.objs.size, _, I.laid (a := s.heap.objs.size) (o := .dT []) (t' := s.toks) (fun _ _ q => Heap.get?_push_of_some _ q) (g0r _) (GF s.heap I.big), rfl, h _ (I.hok.fresh (g0r _))⟩
end
structure M2 (X : Cx) (o : Expr) (m : Str) (apos : Pos) (e f : Expr) (cpos : Pos) : Prop where
 base : attributeBase o m X.env (eval o X.env) = eval o X.env
 few : ((backTo cpos (starEach [e, f] X.env)).all (fun x => !x.1) && (backToKw cpos (keywordEach [] X.env)).all (fun x => x.1.isSome)
  && decide (([e, f] : List Expr).length + ([] : List Keyword).length + (if ([] : List Keyword).isEmpty then 0 else 1) < 30)) = true
 line : (apos.endLine == cpos.line) = true
 trees : backTo cpos (starEach [e, f] X.env) = [(false, eval e X.env), (false, eval f X.env)]
def IsD (H : Hp) (a : Addr) : Prop := (∃ kvs, Rd H a (.dK kvs)) \/ ∃ kvs, Rd H a (.dT kvs)
theorem FK {X : Cx} {pins : List (Addr × Obj)} {σ : St} {H : Hp} {s : Shared} {a : Addr} (I : Inv X pins σ H s) (d : IsD H a) :
  s.TypeIs (.ref a) "dict" /\ (∀ b, Value.ref a = .ref b -> ∃ ob, s.heap.get? b = some ob /\ ob.dict = none) /\ (a == sysModules) = false := by
 rcases d with ⟨kvs, e⟩ | ⟨kvs, e⟩
 ·obtain ⟨_, hd, vs, _, dd⟩ := Ma I.hok e
  refine ⟨dd.typeIs, fun b q => ?_, hd⟩
  cases q
  obtain ⟨ob, _, _, h1, h2, _⟩ := dd
  exact ⟨ob, h1, h2.2.1⟩
 ·obtain ⟨_, hd, xs, _, dd⟩ := Cj I.hok e
  refine ⟨dd.typeIs, fun b q => ?_, hd⟩
  cases q
  obtain ⟨ob, _, _, h1, h2, _⟩ := dd
  exact ⟨ob, h1, h2.2.1⟩
section
variable {X : Cx} {pins : List (Addr × Obj)} {σ : St} {H : Hp} {s : Shared} {a : Addr} {y d : V} {u r : Value} {o : Option V} {A : Around} {E : Value -> Shared -> Prop}
end
section
variable {X : Cx} {o e f : Expr} {apos cpos : Pos} {td ty tx : TE}
end
section
variable {X : Cx} {pins : List (Addr × Obj)} {σ : St} {H : Hp} {s : Shared} {a : Addr} {kvs : List (Key × V)} {A : Around} {E : Value -> Shared -> Prop}
end
section
variable {X : Cx} {pins : List (Addr × Obj)} {σ : St} {H : Hp} {s : Shared} {a : Addr} {y : V} {u : Value} {A : Around} {E : Value -> Shared -> Prop}
end
end L2
namespace Att
open PySem PySem.W PySem.Calls PyProof.Rows
theorem kz {P : Params} {h : Heap} : ∀ (ns : List Int) (vs : List Value), WellAll P h vs (ns.map WData.int) -> IntsAre vs ns := by
 intro ns
 induction ns with
 | nil =>
  intro vs w
  rw [g0y] at w
  cases w
  exact .nil
 | cons n ns ih =>
  intro vs w
  rw [g0f] at w
  cases w with
  | cons a b =>
   cases a
   exact .cons _ _ (ih _ b)
theorem U5 {l : OpenLaw} {n : Nat} (hn : l.most = some n) {P : Params} {h : Heap} {args : List WData} {vals : List Value}
  (hpre : l.row.toRowW.claim.pre args = true) (hwl : WellAll P h vals args) :
  ∃ a vs ns, vals = [Value.ref a] /\ args = [WData.list (ns.map WData.int)] /\ h.get? a = some { cls := .type "list", data := .seq vs.toArray } /\ IntsAre vs ns /\ ns.length <= n := by
 have hsh : WShape.hasAll [] args [.list .int] = true := (pre_splitW hpre).1
 have hc : l.pre.holds [] { args := args } = true := (pre_splitW hpre).2
 obtain ⟨d, r, rfl, h1, h2⟩ := hasAllW_cons hsh
 obtain rfl := hasAllW_nil h2
 obtain ⟨xs, rfl, h3⟩ := hasW_list h1
 obtain ⟨ns, rfl⟩ := items_int h3
 have hlen : ns.length <= n := by
  unfold OpenLaw.pre at hc
  have h4 : (WTm.not (.lt (.lit (.int (n : Int))) (.len (.arg 0)))).holds [] { args := [.list (ns.map .int)] } = true := by
   have h4 := (holds_andW hc).1
   rw [hn] at h4
   exact h4
  have h5 := condW_of h4 (w_not (w_lt w_lit (w_len_list (w_arg rfl))))
  rw [g0k] at h5
  refine Nat.le_of_not_lt fun q => ?_
  have q' : (n : Int) < ((ns.length : Nat) : Int) := by omega
  first
   | (rw [decide_eq_true q'] at h5; exact absurd h5 (by decide))
   | (simp at h5; omega)
 cases hwl with
 | cons w1 w2 =>
  cases w2
  cases w1 with
  | list ho hall => exact ⟨_, _, ns, rfl, rfl, ho, kz ns _ hall, hlen⟩
theorem Qm (l : OpenLaw) (args : List WData) : l.row.toRowW.claim.post args (.bool true) args = true :=
 postW_of (r := l.row.toRowW) (X := (true == true))
  (show WShape.has [] (.bool true) .bool = true by first | rfl | decide | simp [WShape.has, WShape.arms, WShape.armsAll])
  (show (WTm.eq .res (.lit (.bool true))).value [] { args := args, res := some (.bool true), after := args } = some (.bool (true == true)) from w_eq_bool (w_res rfl) w_lit) rfl
theorem attach_call {l : OpenLaw} {n : Nat} {q : Program} {loose : List Str} {XP : (Str -> Option Value) -> Heap -> Prop} {YP : World -> Heap -> Prop} {d : DefRec}
  (hn : l.most = some n) (hdf : d.params.defaults = [])
  (call : ∀ (w : World) (s₀ s₁ : Shared) (mg mb : Str -> Option Value) (fa : Addr) (o : Obj) (pm cd doc : Value) (a : Addr) (vs : List Value) (ns : List Int),
   Ground q loose [] XP w s₀ mg mb s₁.heap -> YP w s₁.heap →
   s₁.heap.get? fa = some o -> o.data = .func (docDef d.name d.params d.body d.scope pm cd doc) -> s₁.heap.CodeRec cd d.name -> mg d.name = some (.ref fa) →
   s₁.heap.get? a = some { cls := .type "list", data := .seq vs.toArray } -> IntsAre vs ns -> ns.length <= n -> s₁.gens = #[] →
   codeAny (model l.prog w) callerA (.call (.ref fa) ⟨[.ref a], []⟩) (fun r s' => r = .ok (.ret (.bool true)) /\ OldK s₁.heap s'.heap /\ s'.os = s₁.os /\ AllBare s'.gens) s₁) :
  WalkO q loose XP YP l.row.toRowW d [] (fun f vs => PySem.call f vs) := by
 intro w s₀ s₁ mg mb G Y fa o pm cd doc dV kV ho hd hcd hD hmg hg args vals as hpre hlay hrd hwl hlo
 obtain rfl : dV = .none := Dflts.none hD hdf
 obtain rfl : kV = .none := Dflts.noKw hD
 obtain ⟨a, vs, ns, rfl, rfl, hobj, hints, hlen⟩ := U5 hn hpre hwl
 refine enter_call (codeAny_mono (call w s₀ s₁ mg mb fa o pm cd doc a vs ns G Y ho (fd_plain hd) hcd hmg hobj hints hlen hg) fun r s' hq => ?_)
 obtain ⟨rfl, h2, h3, h4⟩ := hq
 exact ⟨.inl ⟨.bool true, .bool true, [], rfl, fun _ => rfl, .bool true, Qm l _, fun _ => ⟨List.Pairwise.nil, fun _ hm => (nomatch hm)⟩⟩, h2, h3, h4⟩
section
variable {prog : Program} {w : World} {A : Around} {E : Value -> Shared -> Prop} {s : Shared} {K : Frag}
def N3 (h : Heap) (L d : Addr) : List (Addr × Obj) := (g0u h.objs.size).filterMap fun a => if a = L \/ a = d then none else (h.get? a).map fun o => (a, o)
end
end Att
namespace L2
open PySem PySem.Spec PyProof.Rows
theorem vals_ints : ∀ {vs : List Value} {ns : List Int}, IntsAre vs ns -> yP (ns.map V.int) vs
 | _, _, .nil => .nil
 | _, _, .cons n t h => .cons ⟨t, rfl⟩ (vals_ints h)
def MH (H : Hp) : Prop := ∀ b, H b = none \/ ∃ o xs, H b = some (.frz o (.lst xs))
theorem Gf {P : Program} {w : World} {K : W.Frag} {mg mb : Str -> Option Value} {CX : CXT} {k : Nat} {fa a : Addr} {fd : FuncData} {x : Str} {sp : Sp} {s₁ : Shared} {vs : List Value} {ns : List Int}
  (KX : K.In s₁.heap) (hns : s₁.heap.Ns mainGlobals mg) (hb : s₁.heap.Ns builtinsNs mb) (hbb : ∀ x : Str, x ≠ "__name__" -> mb x = bootBuiltins x) (hlim : s₁.heap.NoLimit) (hg : s₁.gens = #[])
  (ha : s₁.heap.get? a = some { cls := .type "list", data := .seq vs.toArray }) (hi : IntsAre vs ns) (hl : ns.length <= sizeLine) (hr : Room k callerA)
  (F : ∀ base : Heap, K.In base -> base.Ns mainGlobals mg -> FnOk P w K mg base CX k fa fd [x] sp) (hbind : ∀ (s : Shared) (u : Value), BindsTo s fd ⟨[u], []⟩ [(x, u)])
  (hsp : ∀ H : Hp, MH H -> SqL K H a (ns.map V.int) -> sp [.ref a] H (fun v _ => v = .bl true) fun _ _ _ => False)
  (hCX : ∀ H e s', CX [] H s₁ (fun _ _ _ => False) e s' -> False) :
  codeAny (model P w) callerA (.call (.ref fa) ⟨[.ref a], []⟩) (fun r s' => r = .ok (.ret (.bool true)) /\ OldK s₁.heap s'.heap /\ s'.os = s₁.os /\ AllBare s'.gens) s₁ := by
 have rv := vals_ints hi
 have lenV := hi.length
 have core : ∀ H : Hp, MH H -> SqL K H a (ns.map V.int) -> HOk P w H s₁.heap -> (∀ b, H b ≠ none -> b = a) -> (H a ≠ none -> K.lookup a = none) →
   codeAny (model P w) callerA (.call (.ref fa) ⟨[.ref a], []⟩) (fun r s' => r = .ok (.ret (.bool true)) /\ OldK s₁.heap s'.heap /\ s'.os = s₁.os /\ AllBare s'.gens) s₁ := by
  intro H hO hS hok hA hK
  have base_of : ∀ {b : Addr} {o : Obj}, s₁.heap.get? b = some o -> H b = none -> (Gr s₁.heap H).get? b = some o := fun e n => Gq e n
  have noA : ∀ {b : Addr} {o : Obj} {es : Array DictEntry} {ep : Nat}, s₁.heap.get? b = some o -> o.data = .dict es ep -> H b = none := fun {b o es ep} e d => by
   cases q : H b with
   | none => rfl
   | some u =>
    have e' : b = a := hA b (by rw [q]; simp)
    subst e'
    rw [ha] at e; cases e
    have d' : Data.seq vs.toArray _ = Data.dict es ep := d
    cases d'
  have nsK : ∀ {b : Addr} {m : Str -> Option Value}, s₁.heap.Ns b m -> (Gr s₁.heap H).Ns b m := fun {b m} ⟨o, es, ep, e, d, r⟩ => ⟨o, es, ep, base_of e (noA e d), d, r⟩
  have hKb : K.In (Gr s₁.heap H) := fun b o e => base_of (KX b o e) (by
   cases q : H b with
   | none => rfl
   | some u =>
    have e' : b = a := hA b (by rw [q]; simp)
    subst e'
    rw [hK (by rw [q]; simp)] at e; cases e)
  have hM : Mod K mg (Gr s₁.heap H) := ⟨hKb, nsK hns, ⟨mb, nsK hb, hbb⟩, let ⟨mc, h1, h2⟩ := hlim; ⟨mc, nsK h1, h2⟩⟩
  have e0 : Env0 P w K mg (Gr s₁.heap H) callerA [] s₁ H := ⟨rfl, hM, fun b o e => BF e, Nat.le_of_eq (Q5 _ _), trivial, fun b hb => absurd (show b ∈ ([] : List Addr) from hb) (by simp), hok, .of_eq hg⟩
  refine codeAny_mono ((F _ hKb (nsK hns)).run callerA [] s₁ H ⟨[.ref a], []⟩ [.ref a] [.ref a] _ _ hr e0 (hbind s₁ (.ref a)) (.cons rfl .nil) (hsp H hO hS)) fun r s' h => ?_
  cases r with
  | error e => exact (hCX H e s' h).elim
  | ok fl =>
   cases fl with
   | next => exact False.elim h
   | brk => exact False.elim h
   | cont => exact False.elim h
   | ret u =>
    obtain ⟨v, H', os, bare, un, hok', r', q⟩ := h
    have q' : v = .bl true := q
    subst q'
    obtain rfl : u = Value.bool true := r'
    refine ⟨rfl, OldK.of_keep fun b o e => ?_, os, bare⟩
    cases q : H b with
    | none => exact un.keep b o e q (by intro z; exact absurd (show b ∈ ([] : List Addr) from z) (by simp)) (by simp)
    | some u =>
     rcases hO b with z | ⟨ob, xs, z⟩
     ·rw [q] at z; cases z
     ·have z2 := un.frzs b ob _ z
      obtain ⟨e1, _⟩ := hok b _ z
      obtain ⟨e2, _⟩ := hok' b _ z2
      rw [e] at e1; cases e1
      exact e2
 cases hk : K.lookup a with
 | some o =>
  have e := KX a o hk
  rw [ha] at e
  cases e
  refine core (fun _ => none) (fun _ => .inl rfl) (.inr ⟨_, vs.toArray, _, hk, rfl, rfl, rfl, by rw [g0p, lenV]; exact hl, by simpa using rv⟩) (fun b u z => by have z' : (none : Option HO) = some u := z; cases z') (fun b z => absurd rfl z) fun z => absurd rfl z
 | none =>
  refine core (fun b => if b = a then some (.frz { cls := .type "list", data := .seq vs.toArray } (.lst (ns.map V.int))) else none) (fun b => ?_) (.inl (.inr ⟨{ cls := .type "list", data := .seq vs.toArray }, if_pos rfl⟩)) (fun b u z => ?_) (fun b z => ?_) fun _ => hk
  ·by_cases hb : b = a
   ·exact .inr ⟨_, _, if_pos hb⟩
   ·exact .inl (if_neg hb)
  ·by_cases hb : b = a
   ·have z' := (if_pos hb).symm.trans z
    cases z'
    subst hb
    exact ⟨ha, by rw [g0k]; exact hl, vs, _, rv, ha⟩
   ·have z' := (if_neg hb).symm.trans z
    cases z'
  ·by_cases hb : b = a
   ·exact hb
   ·exact absurd (if_neg hb) z
theorem HA {l : W.OpenLaw} {n k : Nat} {q : Program} {loose : List Str} {XP : (Str -> Option Value) -> Heap -> Prop} {YP : World -> Heap -> Prop} {d : DefRec} {K : Params -> W.Frag} {CX : World -> CXT} {sp : World -> Sp} {x : Str}
  (hn : l.most = some n) (hn2 : n <= sizeLine) (hdf : d.params.defaults = []) (hr : Room k callerA)
  (hY : ∀ (w : World) (h : Heap), YP w h -> (K w.params).In h)
  (F : ∀ (w : World) (mg : Str -> Option Value) (fa : Addr) (h : Heap), (K w.params).In h -> h.Ns mainGlobals mg -> mg d.name = some (.ref fa) →
   ∃ fd : FuncData, (∀ (s : Shared) (u : Value), BindsTo s fd ⟨[u], []⟩ [(x, u)]) ∧
    ∀ base : Heap, (K w.params).In base -> base.Ns mainGlobals mg -> FnOk l.prog w (K w.params) mg base (CX w) k fa fd [x] (sp w))
  (hsp : ∀ (w : World) (H : Hp) (a : Addr) (ns : List Int), ns.length <= n -> MH H -> SqL (K w.params) H a (ns.map V.int) -> sp w [.ref a] H (fun v _ => v = .bl true) fun _ _ _ => False)
  (hCX : ∀ (w : World) (H : Hp) (s : Shared) (e : Value) (s' : Shared), CX w [] H s (fun _ _ _ => False) e s' -> False) :
  PySem.W.WalkO q loose XP YP l.row.toRowW d [] (fun f vs => PySem.call f vs) := by
 refine Att.attach_call hn hdf fun w s₀ s₁ mg mb fa o pm cd doc a vs ns G Y ho hd hcd hmg hobj hints hlen hg => ?_
 have KX := hY w _ Y
 obtain ⟨fd, hb, hF⟩ := F w mg fa _ KX G.T.g hmg
 exact Gf KX G.T.g G.T.b G.T.builtins G.T.nolimit hg hobj hints (g1x hlen hn2) hr hF hb (fun H hO hS => hsp w H a ns hlen hO hS) fun H e s' => hCX w H s₁ e s'
theorem walk_ofK {l : W.OpenLaw} {n k : Nat} {q : Program} {loose : List Str} {XP : (Str -> Option Value) -> Heap -> Prop} {YP : World -> Heap -> Prop} {d : DefRec} {K : Params -> W.Frag} {CX : CXT} {sp : W.Frag -> Sp} {x : Str}
  (hn : l.most = some n) (hn2 : n <= sizeLine) (hdf : d.params.defaults = []) (hr : Room k callerA)
  (hY : ∀ (w : World) (h : Heap), YP w h -> (K w.params).In h)
  (F : ∀ (w : World) (mg : Str -> Option Value) (fa : Addr) (h : Heap), (K w.params).In h -> h.Ns mainGlobals mg -> mg d.name = some (.ref fa) →
   ∃ fd : FuncData, (∀ (s : Shared) (u : Value), BindsTo s fd ⟨[u], []⟩ [(x, u)]) ∧
    ∀ base : Heap, (K w.params).In base -> base.Ns mainGlobals mg -> FnOk l.prog w (K w.params) mg base CX k fa fd [x] (sp (K w.params)))
  (hsp : ∀ (K : W.Frag) (H : Hp) (a : Addr) (ns : List Int), ns.length <= n -> MH H -> SqL K H a (ns.map V.int) -> sp K [.ref a] H (fun v _ => v = .bl true) fun _ _ _ => False)
  (hCX : ∀ (H : Hp) (s : Shared) (e : Value) (s' : Shared), CX [] H s (fun _ _ _ => False) e s' -> False) :
  PySem.W.WalkO q loose XP YP l.row.toRowW d [] (fun f vs => PySem.call f vs) :=
 HA (K := K) (CX := fun _ => CX) (sp := fun w => sp (K w.params)) hn hn2 hdf hr hY F (fun w H a ns h1 h2 h3 => hsp (K w.params) H a ns h1 h2 h3) fun _ H s e s' => hCX H s e s'
def zI (s : Stmt) : Arguments := match s with
 | .FunctionDef _ a _ _ _ _ _ _ _ _ => a
 | _ => { posonlyargs := [], args := [], vararg := none, kwonlyargs := [], kw_defaults := [], kwarg := none, defaults := [] }
def zE (s : Stmt) : List Stmt := match s with
 | .FunctionDef _ _ b _ _ _ _ _ _ _ => b
 | _ => []
def zd (s : Stmt) : Scope := match s with
 | .FunctionDef _ _ _ _ _ _ sc _ _ _ => sc
 | _ => { kind := .function, names := [], isGenerator := false, isCoroutine := false }
abbrev CX0 : CXT := fun _ _ _ _ _ _ => False
abbrev E0 : XK := fun _ _ _ => False
theorem Nd {X : Cx} : VO CX0 X E0 := fun _ _ _ _ _ _ _ h => h.elim
structure Fun (K : W.Frag) (x qual : Str) (st : Stmt) (f : Addr) (fd : FuncData) : Prop where
 ex : ∃ (oc : Value) (od : Option Addr) (kV doc pm : Value) (an : Option Addr) (cdv ct : Value) (osl : Array (Option Value)),
  fd = W.fnOf x qual (zI st) (zE st) (zd st) .none kV doc pm an cdv ct /\ K.lookup f = some ⟨oc, od, .func fd, osl⟩ /\ W.codeIn K cdv qual = true
 kp : W.keepIn K (.ref f) = true
section
variable {P : Program} {w : World} {K : W.Frag} {mg : Str -> Option Value} {base : Heap}
theorem Fun.ok {x qual : Str} {st : Stmt} {f : Addr} {fd : FuncData} {N ps : List Str} {k : Nat} {sp : Sp} (F : Fun K x qual st f fd) (S : FnScope N ps (zd st)) (len : ∀ vs H Q E, sp vs H Q E -> vs.length = ps.length)
  (hbody : ∀ (cdv : Value) (A : Around) (outer : List Env) (s : Shared) (H : Hp) (vs : List V) (Q : VK) (E : XK), Room k (A.deeper (envOfC qual (zd st) s.heap.objs.size f cdv)) -> sp vs H Q E →
   ∃ t, PSs (CH CX0 P w K mg base N qual (zd st) f cdv A outer s H E).nox (zE st) t /\ t { nx := fun _ H' => Q .non H', rt := Q } (start N vs) H) : FnOk P w K mg base CX0 (k + 1) f fd ps sp := by
 obtain ⟨oc, od, kV, doc, pm, an, cdv, ct, osl, rfl, lk, hcd⟩ := F.ex
 refine Nu lk hcd S len fun A outer s H vs Q E hr hsp => ?_
 obtain ⟨t, h, q⟩ := hbody cdv A outer s H vs Q E hr hsp
 exact ⟨t, h.nox, q⟩
theorem Fun.binds {x qual : Str} {st : Stmt} {f : Addr} {fd : FuncData} {ps : List Str} (F : Fun K x qual st f fd)
  (h : ∀ (kV doc pm : Value) (an : Option Addr) (cdv ct : Value) (us : List Value), us.length = ps.length -> bindArgs (W.fnOf x qual (zI st) (zE st) (zd st) .none kV doc pm an cdv ct) ⟨us, []⟩ = pure (ps.zip us)) : WL K fd ps [] := by
 obtain ⟨oc, od, kV, doc, pm, an, cdv, ct, osl, rfl, lk, hcd⟩ := F.ex
 exact .all (h kV doc pm an cdv ct)
theorem yc {x qual : Str} {st : Stmt} {f : Addr} {oc : Value} {od an : Option Addr} {osl : Array (Option Value)} {kV doc pm cdv ct : Value} (l : K.lookup f = some ⟨oc, od, .func (W.fnOf x qual (zI st) (zE st) (zd st) .none kV doc pm an cdv ct), osl⟩)
  (c : W.codeIn K cdv qual = true) (k : W.keepIn K (.ref f) = true) : Fun K x qual st f (W.fnOf x qual (zI st) (zE st) (zd st) .none kV doc pm an cdv ct) := ⟨⟨oc, od, kV, doc, pm, an, cdv, ct, osl, rfl, l, c⟩, k⟩
end
theorem wO {n : Nat} (h : n <= 1000) : n < sizeLine := g3e h (by decide)
section
variable {X : Cx}
theorem pv (i : Nat) {x : Str} {pos : Pos} (hN : X.N[i]? = some x := by rfl) (hv : Vis X.env.scope x := by first | exact Or.inl rfl | exact Or.inr (Or.inl rfl) | exact Or.inr (Or.inr rfl)) (hd : (x == ("__debug__" : Str)) = false := by decide)
  (hcd : (x == ("__classdict__" : Str)) = false := by decide) : PE X (.Name x pos) (NJ i) := uj hN hv hd hcd
end
theorem Cb {A B : Prop} (h : B) : if false = true then A else B := by
 rw [if_neg g1n]
 exact h
theorem Ca {A B : Prop} (h : A) : if true = true then A else B := by
 rw [if_pos rfl]
 exact h
def yi (H H' : Hp) : Prop := ∀ b o, H b = some o -> H' b = some o
theorem yi.trans {H H1 H2 : Hp} (a : yi H H1) (b : yi H1 H2) : yi H H2 := fun c o h => b c o (a c o h)
theorem yi.free {H H' : Hp} (e : yi H H') {l : Addr} (h : H' l = Option.none) : H l = Option.none := by
 cases q : H l with
 | none => rfl
 | some o =>
  rw [e l o q] at h
  cases h
theorem yi.seq {K : W.Frag} {H H' : Hp} {a : Addr} {xs : List V} (e : yi H H') (h : SqL K H a xs) : SqL K H' a xs := by
 rcases h with (h | ⟨o, h⟩) | h
 ·exact .inl (.inl (e _ _ h))
 ·exact .inl (.inr ⟨o, e _ _ h⟩)
 ·exact .inr h
section
variable {κ : Type} [DecidableEq κ]
end
end L2
set_option maxHeartbeats 4000000
namespace FL
open PySem PySem.Spec PyProof.Rows L2
abbrev St := L2.St
inductive D where
 | non
 | bl (b : Bool)
 | int (i : Int)
 | str (x : Str)
 | tup (ds : List D)
 | lst (ds : List D)
 deriving Inhabited
mutual
def Has (K : W.Frag) (H : Hp) : D -> V -> Prop
 | .non, v => v = .non
 | .bl b, v => v = .bl b
 | .int i, v => v = .int i
 | .str x, v => v = .str x
 | .tup ds, v => ∃ a xs, v = .ref a /\ SqT K H a xs /\ zP K H ds xs
 | .lst ds, v => ∃ a xs, v = .ref a /\ SqL K H a xs /\ zP K H ds xs
def zP (K : W.Frag) (H : Hp) : List D -> List V -> Prop
 | [], xs => xs = []
 | d :: ds, xs => ∃ x r, xs = x :: r /\ Has K H d x /\ zP K H ds r
end
theorem zx {H : Hp} : yi H H := fun _ _ e => e
theorem uZ {K : W.Frag} {H H' : Hp} {a : Addr} {xs : List V} (e : yi H H') (h : SqT K H a xs) : SqT K H' a xs := by
 rcases h with (h | ⟨o, h⟩) | h
 ·exact .inl (.inl (e _ _ h))
 ·exact .inl (.inr ⟨o, e _ _ h⟩)
 ·exact .inr h
section
variable {K : W.Frag} {H H' : Hp}
mutual
theorem Has.mono (s : yi H H') : ∀ {d : D} {v : V}, Has K H d v -> Has K H' d v
 | .non, _, h => by unfold Has at h ⊢; exact h
 | .bl _, _, h => by unfold Has at h ⊢; exact h
 | .int _, _, h => by unfold Has at h ⊢; exact h
 | .str _, _, h => by unfold Has at h ⊢; exact h
 | .tup ds, v, h => by
  unfold Has at h ⊢
  obtain ⟨a, xs, e, q, l⟩ := h
  exact ⟨a, xs, e, uZ s q, zP.mono s l⟩
 | .lst ds, v, h => by
  unfold Has at h ⊢
  obtain ⟨a, xs, e, q, l⟩ := h
  exact ⟨a, xs, e, s.seq q, zP.mono s l⟩
theorem zP.mono (s : yi H H') : ∀ {ds : List D} {xs : List V}, zP K H ds xs -> zP K H' ds xs
 | [], _, h => by unfold zP at h ⊢; exact h
 | d :: ds, xs, h => by
  unfold zP at h ⊢
  obtain ⟨x, r, e, h1, h2⟩ := h
  exact ⟨x, r, e, Has.mono s h1, zP.mono s h2⟩
end
theorem Has.non_iff {v : V} : Has K H .non v ↔ v = .non := by unfold Has; rfl
theorem Has.bl_iff {b : Bool} {v : V} : Has K H (.bl b) v ↔ v = .bl b := by unfold Has; rfl
theorem Has.int_iff {i : Int} {v : V} : Has K H (.int i) v ↔ v = .int i := by unfold Has; rfl
theorem Has.str_iff {x : Str} {v : V} : Has K H (.str x) v ↔ v = .str x := by unfold Has; rfl
theorem Has.tup_iff {ds : List D} {v : V} : Has K H (.tup ds) v ↔ ∃ a xs, v = .ref a /\ SqT K H a xs /\ zP K H ds xs := by
 constructor
 ·intro h; unfold Has at h; exact h
 ·intro h; unfold Has; exact h
theorem Has.lst_iff {ds : List D} {v : V} : Has K H (.lst ds) v ↔ ∃ a xs, v = .ref a /\ SqL K H a xs /\ zP K H ds xs := by
 constructor
 ·intro h; unfold Has at h; exact h
 ·intro h; unfold Has; exact h
theorem zP.nil_iff {xs : List V} : zP K H [] xs ↔ xs = [] := by unfold zP; rfl
theorem zP.cons_iff {d : D} {ds : List D} {xs : List V} : zP K H (d :: ds) xs ↔ ∃ x r, xs = x :: r /\ Has K H d x /\ zP K H ds r := by
 constructor
 ·intro h; unfold zP at h; exact h
 ·intro h; unfold zP; exact h
theorem zP.nil : zP K H [] [] := zP.nil_iff.mpr rfl
theorem zP.cons {d : D} {ds : List D} {x : V} {xs : List V} (h : Has K H d x) (t : zP K H ds xs) : zP K H (d :: ds) (x :: xs) := zP.cons_iff.mpr ⟨x, xs, rfl, h, t⟩
theorem zP.length : ∀ {ds : List D} {xs : List V}, zP K H ds xs -> xs.length = ds.length
 | [], _, h => by rw [zP.nil_iff] at h; subst h; rfl
 | d :: ds, xs, h => by
  obtain ⟨x, r, e, _, h2⟩ := zP.cons_iff.mp h
  subst e
  simp [zP.length h2]
theorem zP.get : ∀ {ds : List D} {xs : List V} {i : Nat} {d : D}, zP K H ds xs -> ds[i]? = some d -> ∃ v, xs[i]? = some v /\ Has K H d v
 | [], _, _, _, _, e => by simp at e
 | d :: ds, xs, i, d', h, e => by
  obtain ⟨x, r, e', h1, h2⟩ := zP.cons_iff.mp h
  subst e'
  cases i with
  | zero => simp at e; subst e; exact ⟨x, rfl, h1⟩
  | succ i =>
   obtain ⟨v, q1, q2⟩ := zP.get (i := i) (d := d') h2 (by simpa using e)
   exact ⟨v, by simpa using q1, q2⟩
theorem zP.append : ∀ {ds es : List D} {xs ys : List V}, zP K H ds xs -> zP K H es ys -> zP K H (ds ++ es) (xs ++ ys)
 | [], _, _, _, h, h' => by rw [zP.nil_iff] at h; subst h; exact h'
 | d :: ds, es, xs, ys, h, h' => by
  obtain ⟨x, r, e, h1, h2⟩ := zP.cons_iff.mp h
  subst e
  exact .cons h1 (zP.append h2 h')
theorem zP.drop : ∀ {ds : List D} {xs : List V} (n : Nat), zP K H ds xs -> zP K H (ds.drop n) (xs.drop n)
 | _, _, 0, h => by simpa using h
 | [], _, n + 1, h => by rw [zP.nil_iff] at h; subst h; simpa using zP.nil
 | d :: ds, xs, n + 1, h => by
  obtain ⟨x, r, e, h1, h2⟩ := zP.cons_iff.mp h
  subst e
  exact zP.drop n h2
theorem zP.take : ∀ {ds : List D} {xs : List V} (n : Nat), zP K H ds xs -> zP K H (ds.take n) (xs.take n)
 | _, _, 0, h => by simpa using zP.nil
 | [], _, n + 1, h => by rw [zP.nil_iff] at h; subst h; simpa using zP.nil
 | d :: ds, xs, n + 1, h => by
  obtain ⟨x, r, e, h1, h2⟩ := zP.cons_iff.mp h
  subst e
  exact .cons h1 (zP.take n h2)
theorem zP.set {d : D} {x : V} (hx : Has K H d x) : ∀ {ds : List D} {xs : List V} (i : Nat), zP K H ds xs -> zP K H (ds.set i d) (xs.set i x)
 | [], _, _, h => by rw [zP.nil_iff] at h; subst h; exact zP.nil
 | e :: ds, xs, i, h => by
  obtain ⟨y, r, e, h1, h2⟩ := zP.cons_iff.mp h
  subst e
  cases i with
  | zero => exact .cons hx h2
  | succ i => exact .cons h1 (zP.set hx i h2)
theorem zP.reverse {ds : List D} {xs : List V} (h : zP K H ds xs) : zP K H ds.reverse xs.reverse := by
 induction ds generalizing xs with
 | nil => rw [zP.nil_iff] at h; subst h; exact zP.nil
 | cons d ds ih =>
  obtain ⟨x, r, e, h1, h2⟩ := zP.cons_iff.mp h
  subst e
  rw [g2o, g2o]
  exact (ih h2).append (.cons h1 .nil)
theorem zP.ints : ∀ (ns : List Int), zP K H (ns.map D.int) (ns.map V.int)
 | [] => .nil
 | n :: ns => .cons (Has.int_iff.mpr rfl) (zP.ints ns)
end
inductive Slot where
 | no
 | fr (d : D)
 | ol (ds : List D)
 | oT (kvs : List (List Key × D))
 | oK (kvs : List (Key × D))
 deriving Inhabited
def Slot.own : Slot -> Bool
 | .ol _ => true
 | .oT _ => true
 | .oK _ => true
 | _ => false
abbrev Rho := List Slot
def KVs (K : W.Frag) (H : Hp) {κ : Type} : List (κ × D) -> List (κ × V) -> Prop := Paired fun p q => p.1 = q.1 /\ Has K H p.2 q.2
theorem KVs.mono {K : W.Frag} {H H' : Hp} {κ : Type} (s : yi H H') {l : List (κ × D)} {m : List (κ × V)} (h : KVs K H l m) : KVs K H' l m := Paired.mapP h fun _ _ z => ⟨z.1, Has.mono s z.2⟩
def Zq (K : W.Frag) (H Hf : Hp) (a : Addr) : Slot -> Prop
 | .ol ds => ∃ xs, H a = some (.lst xs) /\ zP K Hf ds xs
 | .oT kvs => ∃ ws, H a = some (.dT ws) /\ KVs K Hf kvs ws
 | .oK kvs => ∃ ws, H a = some (.dK ws) /\ KVs K Hf kvs ws
 | _ => True
theorem Zq.mono {K : W.Frag} {H Hf H' Hf' : Hp} {a : Addr} {sl : Slot} (h : Zq K H Hf a sl) (k : ∀ o, H a = some o -> H' a = some o) (s : yi Hf Hf') : Zq K H' Hf' a sl := by
 cases sl with
 | no => trivial
 | fr d => trivial
 | ol ds => obtain ⟨xs, e, q⟩ := h; exact ⟨xs, k _ e, q.mono s⟩
 | oT kvs => obtain ⟨xs, e, q⟩ := h; exact ⟨xs, k _ e, KVs.mono s q⟩
 | oK kvs => obtain ⟨xs, e, q⟩ := h; exact ⟨xs, k _ e, KVs.mono s q⟩
theorem Zq.there {K : W.Frag} {H Hf : Hp} {a : Addr} {sl : Slot} (h : Zq K H Hf a sl) (ow : sl.own = true) : ∃ o, H a = some o := by
 cases sl with
 | no => cases ow
 | fr d => cases ow
 | ol ds => obtain ⟨xs, e, q⟩ := h; exact ⟨_, e⟩
 | oT kvs => obtain ⟨xs, e, q⟩ := h; exact ⟨_, e⟩
 | oK kvs => obtain ⟨xs, e, q⟩ := h; exact ⟨_, e⟩
def Tp (o : HO) : Prop := ∃ ks : List Key, o = .tup (ks.map kV)
structure Rep (K : W.Frag) (H₀ Hf₀ : Hp) (σ : St) (ρ : Rho) (H Hf : Hp) : Prop where
 s0 : yi H₀ H
 sf : yi Hf H
 nf : ∀ b o, Hf b = some o -> Hf₀ b = some o \/ H₀ b = none \/ Tp o
 f0 : yi Hf₀ Hf
 len : ρ.length = σ.length
 fr : ∀ (i : Nat) (d : D), ρ[i]? = some (.fr d) -> ∃ v, σ[i]? = some (some v) /\ Has K Hf d v
 ow : ∀ (i : Nat) (sl : Slot), ρ[i]? = some sl -> sl.own = true -> ∃ a, σ[i]? = some (some (.ref a)) /\ Zq K H Hf a sl /\ Hf a = none /\ H₀ a = none
 inj : ∀ (i j : Nat) (sl sl' : Slot) (a : Addr), ρ[i]? = some sl -> sl.own = true -> ρ[j]? = some sl' -> sl'.own = true -> σ[i]? = some (some (.ref a)) -> σ[j]? = some (some (.ref a)) -> i = j
theorem Zq.notTp {K : W.Frag} {H Hf H' : Hp} {a : Addr} {sl : Slot} {u : HO} (h : Zq K H Hf a sl) (ow : sl.own = true) (k : ∀ o, H a = some o -> H' a = some o) (z : H' a = some u) (t : Tp u) : False := by
 obtain ⟨ks, rfl⟩ := t
 cases sl with
 | no => cases ow
 | fr d => cases ow
 | ol ds => obtain ⟨xs, e, q⟩ := h; have := (k _ e).symm.trans z; cases this
 | oT kvs => obtain ⟨xs, e, q⟩ := h; have := (k _ e).symm.trans z; cases this
 | oK kvs => obtain ⟨xs, e, q⟩ := h; have := (k _ e).symm.trans z; cases this
section
variable {K : W.Frag} {H₀ Hf₀ : Hp} {σ : St} {ρ : Rho} {H Hf H' Hf' : Hp}
theorem Rep.grow (R : Rep K H₀ Hf₀ σ ρ H Hf) (h1 : yi H H') (h2 : yi Hf Hf') (h3 : yi Hf' H') (h4 : ∀ b o, Hf' b = some o -> Hf b = some o \/ H b = none \/ Tp o) : Rep K H₀ Hf₀ σ ρ H' Hf' where
 s0 := R.s0.trans h1
 sf := h3
 nf := fun b o e => by
  rcases h4 b o e with q | q | q
  ·exact R.nf b o q
  ·exact .inr (.inl (R.s0.free q))
  ·exact .inr (.inr q)
 f0 := R.f0.trans h2
 len := R.len
 fr := fun i d e => by
  obtain ⟨v, q1, q2⟩ := R.fr i d e
  exact ⟨v, q1, q2.mono h2⟩
 ow := fun i sl e o => by
  obtain ⟨a, q1, q2, q3, q4⟩ := R.ow i sl e o
  refine ⟨a, q1, q2.mono (fun o e => h1 _ _ e) h2, ?_, q4⟩
  obtain ⟨ob, qo⟩ := q2.there o
  cases z : Hf' a with
  | none => rfl
  | some u =>
   rcases h4 a u z with y | y | y
   ·rw [q3] at y; cases y
   ·rw [qo] at y; cases y
   ·exact (q2.notTp o (fun o => h1 a o) (h3 _ _ z) y).elim
 inj := R.inj
theorem Rep.lay (R : Rep K H₀ Hf₀ σ ρ H Hf) {p : Addr} {o : HO} (hp : H p = none) : Rep K H₀ Hf₀ σ ρ (upd H p o) (upd Hf p o) := by
 have hfp : Hf p = none := R.sf.free hp
 refine R.grow (fun b u e => ?_) (fun b u e => ?_) (fun b u e => ?_) (fun b u e => ?_)
 ·rw [zF (ya e hp)]; exact e
 ·rw [zF (ya e hfp)]; exact e
 ·by_cases hb : b = p
  ·subst hb; rw [zq] at e ⊢; exact e
  ·rw [zF hb] at e ⊢; exact R.sf b u e
 ·by_cases hb : b = p
  ·subst hb; exact .inr (.inl hp)
  ·rw [zF hb] at e; exact .inl e
theorem Rep.layN (R : Rep K H₀ Hf₀ σ ρ H Hf) {p : Addr} {o : HO} (hp : H p = none) : Rep K H₀ Hf₀ σ ρ (upd H p o) Hf := by
 refine R.grow (fun b u e => ?_) zx (fun b u e => ?_) (fun b u e => .inl e)
 ·rw [zF (ya e hp)]; exact e
 ·rw [zF (ya (R.sf b u e) hp)]; exact R.sf b u e
theorem zy {p : Addr} {o : HO} (hp : H p = none) : yi H (upd H p o) := fun b u e => by rw [zF (ya e hp)]; exact e
theorem Rep.set (R : Rep K H₀ Hf₀ σ ρ H Hf) {d : D} {v : V} (i : Nat) (h : Has K Hf d v) : Rep K H₀ Hf₀ (σ.set i (some v)) (ρ.set i (.fr d)) H Hf where
 s0 := R.s0
 sf := R.sf
 nf := R.nf
 f0 := R.f0
 len := by simp [R.len]
 fr := fun j d' e => by
  rw [g0x] at e ⊢
  by_cases hj : i = j
  ·rw [if_pos hj] at e ⊢
   split at e
   ·cases e
    rename_i hl
    rw [R.len] at hl
    rw [if_pos hl]
    exact ⟨v, rfl, h⟩
   ·cases e
  ·rw [if_neg hj] at e ⊢
   exact R.fr j d' e
 ow := fun j sl e o => by
  rw [g0x] at e ⊢
  by_cases hj : i = j
  ·rw [if_pos hj] at e
   split at e
   ·cases e; cases o
   ·cases e
  ·rw [if_neg hj] at e ⊢
   exact R.ow j sl e o
 inj := fun j k sl sl' a e o e' o' z z' => by
  rw [g0x] at e e' z z'
  by_cases hj : i = j
  ·rw [if_pos hj] at e
   split at e
   ·cases e; cases o
   ·cases e
  ·by_cases hk : i = k
   ·rw [if_pos hk] at e'
    split at e'
    ·cases e'; cases o'
    ·cases e'
   ·rw [if_neg hj] at e z
    rw [if_neg hk] at e' z'
    exact R.inj j k sl sl' a e o e' o' z z'
theorem Rep.setOwn (R : Rep K H₀ Hf₀ σ ρ H Hf) {sl : Slot} {a : Addr} (i : Nat) (ho : sl.own = true) (h : Zq K H Hf a sl) (hf : Hf a = none) (h0 : H₀ a = none)
  (fresh : ∀ (j : Nat) (sl' : Slot), ρ[j]? = some sl' -> sl'.own = true -> σ[j]? ≠ some (some (.ref a))) : Rep K H₀ Hf₀ (σ.set i (some (.ref a))) (ρ.set i sl) H Hf where
 s0 := R.s0
 sf := R.sf
 nf := R.nf
 f0 := R.f0
 len := by simp [R.len]
 fr := fun j d' e => by
  rw [g0x] at e ⊢
  by_cases hj : i = j
  ·rw [if_pos hj] at e
   split at e
   ·cases e; cases ho
   ·cases e
  ·rw [if_neg hj] at e ⊢
   exact R.fr j d' e
 ow := fun j sl' e o => by
  rw [g0x] at e ⊢
  by_cases hj : i = j
  ·rw [if_pos hj] at e ⊢
   split at e
   ·cases e
    rename_i hl
    rw [R.len] at hl
    rw [if_pos hl]
    exact ⟨a, rfl, h, hf, h0⟩
   ·cases e
  ·rw [if_neg hj] at e ⊢
   exact R.ow j sl' e o
 inj := fun j k s1 s2 b e o e' o' z z' => by
  rw [g0x] at e e' z z'
  by_cases hj : i = j
  ·by_cases hk : i = k
   ·omega
   ·rw [if_pos hj] at z
    rw [if_neg hk] at e' z'
    split at z
    ·cases z
     exact absurd z' (fresh k s2 e' o')
    ·cases z
  ·by_cases hk : i = k
   ·rw [if_pos hk] at z'
    rw [if_neg hj] at e z
    split at z'
    ·cases z'
     exact absurd z (fresh j s1 e o)
    ·cases z'
   ·rw [if_neg hj] at e z
    rw [if_neg hk] at e' z'
    exact R.inj j k s1 s2 b e o e' o' z z'
theorem Rep.updOwn (R : Rep K H₀ Hf₀ σ ρ H Hf) {sl sl' : Slot} {a : Addr} {o : HO} {i : Nat} (e : ρ[i]? = some sl) (ho : sl.own = true) (ea : σ[i]? = some (some (.ref a))) (ho' : sl'.own = true) (h : Zq K (upd H a o) Hf a sl') :
  Rep K H₀ Hf₀ σ (ρ.set i sl') (upd H a o) Hf := by
 obtain ⟨a', q1, q2, q3, q4⟩ := R.ow i sl e ho
 rw [ea] at q1; cases q1
 have hil : i < ρ.length := (g1a.mp e).1
 refine ⟨fun b u z => ?_, fun b u z => ?_, R.nf, R.f0, by simp [R.len], fun j d z => ?_, fun j s1 z oz => ?_, fun j k s1 s2 b z oz z' oz' y y' => ?_⟩
 ·rw [zF (ya z q4)]; exact R.s0 b u z
 ·rw [zF (ya z q3)]; exact R.sf b u z
 ·rw [g0x] at z
  by_cases hj : i = j
  ·rw [if_pos hj, if_pos hil] at z
   cases z; cases ho'
  ·rw [if_neg hj] at z
   exact R.fr j d z
 ·rw [g0x] at z
  by_cases hj : i = j
  ·rw [if_pos hj, if_pos hil] at z
   cases z
   subst hj
   exact ⟨a, ea, h, q3, q4⟩
  ·rw [if_neg hj] at z
   obtain ⟨b, p1, p2, p3, p4⟩ := R.ow j s1 z oz
   refine ⟨b, p1, p2.mono (fun u q => ?_) zx, p3, p4⟩
   rw [zF]
   ·exact q
   ·rintro rfl
    exact hj (R.inj i j sl s1 b e ho z oz ea p1)
 ·have own_at : ∀ (j : Nat) (s1 : Slot), (ρ.set i sl')[j]? = some s1 -> s1.own = true -> ∃ s2, ρ[j]? = some s2 /\ s2.own = true := fun j s1 z oz => by
   rw [g0x] at z
   by_cases hj : i = j
   ·subst hj; exact ⟨sl, e, ho⟩
   ·rw [if_neg hj] at z; exact ⟨s1, z, oz⟩
  obtain ⟨t1, u1, v1⟩ := own_at j s1 z oz
  obtain ⟨t2, u2, v2⟩ := own_at k s2 z' oz'
  exact R.inj j k t1 t2 b u1 v1 u2 v2 y y'
theorem Rep.freeze (R : Rep K H₀ Hf₀ σ ρ H Hf) {ds : List D} {i : Nat} (e : ρ[i]? = some (.ol ds)) : ∃ Hf', yi Hf Hf' /\ Rep K H₀ Hf₀ σ (ρ.set i (.fr (.lst ds))) H Hf' := by
 obtain ⟨a, q1, ⟨xs, q2, q2'⟩, q3, q4⟩ := R.ow i _ e rfl
 have hil : i < ρ.length := (g1a.mp e).1
 have sm : yi Hf (upd Hf a (.lst xs)) := zy q3
 refine ⟨upd Hf a (.lst xs), sm, R.s0, fun b u z => ?_, fun b u z => ?_, R.f0.trans sm, by simp [R.len], fun j d z => ?_, fun j s1 z oz => ?_, fun j k s1 s2 b z oz z' oz' y y' => ?_⟩
 ·by_cases hb : b = a
  ·subst hb; rw [zq] at z; cases z; exact q2
  ·rw [zF hb] at z; exact R.sf b u z
 ·by_cases hb : b = a
  ·subst hb; exact .inr (.inl q4)
  ·rw [zF hb] at z; exact R.nf b u z
 ·rw [g0x] at z
  by_cases hj : i = j
  ·rw [if_pos hj, if_pos hil] at z
   cases z
   subst hj
   exact ⟨_, q1, Has.lst_iff.mpr ⟨a, xs, rfl, SqL.of zq, q2'.mono sm⟩⟩
  ·rw [if_neg hj] at z
   obtain ⟨v, p1, p2⟩ := R.fr j d z
   exact ⟨v, p1, p2.mono sm⟩
 ·rw [g0x] at z
  by_cases hj : i = j
  ·rw [if_pos hj, if_pos hil] at z
   cases z; cases oz
  ·rw [if_neg hj] at z
   obtain ⟨b, p1, p2, p3, p4⟩ := R.ow j s1 z oz
   refine ⟨b, p1, p2.mono (fun u q => q) sm, ?_, p4⟩
   rw [zF]
   ·exact p3
   ·rintro rfl
    exact hj (R.inj i j _ s1 b e rfl z oz q1 p1)
 ·have own_at : ∀ (j : Nat) (s1 : Slot), (ρ.set i (.fr (.lst ds)))[j]? = some s1 -> s1.own = true -> ρ[j]? = some s1 := fun j s1 z oz => by
   rw [g0x] at z
   by_cases hj : i = j
   ·rw [if_pos hj, if_pos hil] at z
    cases z; cases oz
   ·rw [if_neg hj] at z; exact z
  exact R.inj j k s1 s2 b (own_at j s1 z oz) oz (own_at k s2 z' oz') oz' y y'
end
end FL
namespace FL
open PySem PySem.Spec PyProof.Rows L2
abbrev FE := Rho -> Option D
abbrev FT := Rho -> Option Bool
abbrev FA := Rho -> Option (List D)
inductive Out where
 | nx (ρ : Rho)
 | rt (d : D)
 | bk (ρ : Rho)
 | ct (ρ : Rho)
abbrev FS := Rho -> Option Out
def qR (K : W.Frag) (Hf : Hp) (σ : St) (ρ : Rho) (d : D) (v : V) : Prop := Has K Hf d v \/ ∃ (i : Nat) (ds : List D), d = .lst ds /\ ρ[i]? = some (.ol ds) /\ σ[i]? = some (some v)
theorem qR.mono {K : W.Frag} {Hf Hf' : Hp} {σ : St} {ρ : Rho} {d : D} {v : V} (h : qR K Hf σ ρ d v) (s : yi Hf Hf') : qR K Hf' σ ρ d v := h.imp (Has.mono s) id
def tF (K : W.Frag) (f : FE) : TE := fun σ H Q => ∃ H₀ Hf₀ ρ Hf d, Rep K H₀ Hf₀ σ ρ H Hf /\ f ρ = some d ∧
 ∀ v H' Hf', Rep K H₀ Hf₀ σ ρ H' Hf' -> yi H H' -> yi Hf Hf' -> Has K Hf' d v -> Q v H'
def tR (K : W.Frag) (f : FE) : TE := fun σ H Q => ∃ H₀ Hf₀ ρ Hf d, Rep K H₀ Hf₀ σ ρ H Hf /\ f ρ = some d ∧
 ∀ v H' Hf', Rep K H₀ Hf₀ σ ρ H' Hf' -> yi H H' -> yi Hf Hf' -> qR K Hf' σ ρ d v -> Q v H'
def tN (K : W.Frag) (f : FA) : TE := fun σ H Q => ∃ H₀ Hf₀ ρ Hf ds, Rep K H₀ Hf₀ σ ρ H Hf /\ f ρ = some ds ∧
 ∀ a xs H' Hf', Rep K H₀ Hf₀ σ ρ H' Hf' -> yi H H' -> yi Hf Hf' -> zP K Hf' ds xs -> H' a = some (.lst xs) -> Hf' a = none -> H a = none -> Q (.ref a) H'
def tT (K : W.Frag) (f : FT) : TT := fun σ H Q => ∃ H₀ Hf₀ ρ Hf b, Rep K H₀ Hf₀ σ ρ H Hf /\ f ρ = some b ∧
 ∀ H' Hf', Rep K H₀ Hf₀ σ ρ H' Hf' -> yi H H' -> yi Hf Hf' -> Q b H'
def tAF (K : W.Frag) (f : FA) : TA := fun σ H Q => ∃ H₀ Hf₀ ρ Hf ds, Rep K H₀ Hf₀ σ ρ H Hf /\ f ρ = some ds ∧
 ∀ vs H' Hf', Rep K H₀ Hf₀ σ ρ H' Hf' -> yi H H' -> yi Hf Hf' -> zP K Hf' ds vs -> Q vs H'
def kZ (K : W.Frag) (Hf : Hp) (σ : St) (ρ : Rho) : List D -> List V -> Prop := Paired (qR K Hf σ ρ)
def tAR (K : W.Frag) (f : FA) : TA := fun σ H Q => ∃ H₀ Hf₀ ρ Hf ds, Rep K H₀ Hf₀ σ ρ H Hf /\ f ρ = some ds ∧
 ∀ vs H' Hf', Rep K H₀ Hf₀ σ ρ H' Hf' -> yi H H' -> yi Hf Hf' -> kZ K Hf' σ ρ ds vs -> Q vs H'
def MB (K : W.Frag) (H₀ Hf₀ Hf : Hp) (D' : Ends) : Out -> Prop
 | .nx ρ' => ∀ σ' H' Hf', Rep K H₀ Hf₀ σ' ρ' H' Hf' -> yi Hf Hf' -> D'.nx σ' H'
 | .bk ρ' => ∀ σ' H' Hf', Rep K H₀ Hf₀ σ' ρ' H' Hf' -> yi Hf Hf' -> D'.bk σ' H'
 | .ct ρ' => ∀ σ' H' Hf', Rep K H₀ Hf₀ σ' ρ' H' Hf' -> yi Hf Hf' -> D'.ct σ' H'
 | .rt d => ∀ v σ' ρ' H' Hf', Rep K H₀ Hf₀ σ' ρ' H' Hf' -> yi Hf Hf' -> Has K Hf' d v -> D'.rt v H'
def tS (K : W.Frag) (F : FS) : TS := fun D' σ H => ∃ H₀ Hf₀ ρ Hf o, Rep K H₀ Hf₀ σ ρ H Hf /\ F ρ = some o /\ MB K H₀ Hf₀ Hf D' o
def DE (X : Cx) (e : Expr) (f : FE) : Prop := PE X e (tF X.K f)
def DR (X : Cx) (e : Expr) (f : FE) : Prop := PE X e (tR X.K f)
def DN (X : Cx) (e : Expr) (f : FA) : Prop := PE X e (tN X.K f)
def DT (X : Cx) (e : Expr) (f : FT) : Prop := PT X e (tT X.K f)
def DW (X : Cx) (e : Expr) (f : FT) : Prop := PW X e (tT X.K f)
def DA (X : Cx) (es : List Expr) (f : FA) : Prop := PA X es (tAF X.K f)
def DAR (X : Cx) (es : List Expr) (f : FA) : Prop := PA X es (tAR X.K f)
def DS (X : Cx) (st : Stmt) (F : FS) : Prop := PS X st (tS X.K F)
def DSs (X : Cx) (sts : List Stmt) (F : FS) : Prop := PSs X sts (tS X.K F)
section
variable {X : Cx} {e a b c : Expr} {es : List Expr} {f g h : FE} {fa ga : FA} {ft gt : FT} {pos : Pos} {t t' : TE}
theorem yy (h : PE X e t) (i : ∀ σ H Q, t' σ H Q -> t σ H Q) : PE X e t' := fun pins s σ H Q I hw => h pins s σ H Q I (i _ _ _ hw)
theorem Qh {t t' : TT} (h : PT X e t) (i : ∀ σ H Q, t' σ H Q -> t σ H Q) : PT X e t' := fun pins s σ H Q I hw => h pins s σ H Q I (i _ _ _ hw)
theorem G7 {t t' : TT} (h : PW X e t) (i : ∀ σ H Q, t' σ H Q -> t σ H Q) : PW X e t' := fun wh pins s σ H Q I hw => h wh pins s σ H Q I (i _ _ _ hw)
theorem Vc {t t' : TA} (h : PA X es t) (i : ∀ σ H Q, t' σ H Q -> t σ H Q) : PA X es t' := fun p pins s σ H Q I hw => h p pins s σ H Q I (i _ _ _ hw)
theorem xN {st : Stmt} {t t' : TS} (h : PS X st t) (i : ∀ D σ H, t' D σ H -> t D σ H) : PS X st t' := fun pins s σ H D I hw => h pins s σ H D I (i _ _ _ hw)
theorem Yc {sts : List Stmt} {t t' : TS} (h : PSs X sts t) (i : ∀ D σ H, t' D σ H -> t D σ H) : PSs X sts t' := fun pins s σ H D I hw => h pins s σ H D I (i _ _ _ hw)
theorem DE.dr (he : DE X e f) : DR X e f := yy he fun σ H Q ⟨H₀, Hf₀, ρ, Hf, d, R, q, k⟩ => ⟨H₀, Hf₀, ρ, Hf, d, R, q, fun v H' Hf' R' s1 s2 hv => k v H' Hf' R' s1 s2 (.inl hv)⟩
def zT (fa : FA) : FE := fun ρ => (fa ρ).map D.lst
theorem DN.de (he : DN X e fa) : DE X e (zT fa) := yy he fun σ H Q ⟨H₀, Hf₀, ρ, Hf, d, R, q, k⟩ => by
 unfold zT at q
 cases hq : fa ρ with
 | none => rw [hq] at q; cases q
 | some ds =>
  rw [hq] at q; cases q
  refine ⟨H₀, Hf₀, ρ, Hf, ds, R, hq, fun a xs H' Hf' R' s1 s2 hl ha hn hh => ?_⟩
  have sm : yi Hf' (upd Hf' a (.lst xs)) := zy hn
  have h0 : H₀ a = none := R.s0.free hh
  refine k (.ref a) H' (upd Hf' a (.lst xs)) ?_ s1 (s2.trans sm) (Has.lst_iff.mpr ⟨a, xs, rfl, SqL.of zq, hl.mono sm⟩)
  refine ⟨R'.s0, fun b u z => ?_, fun b u z => ?_, R'.f0.trans sm, R'.len, fun i d z => ?_, fun i sl z o => ?_, R'.inj⟩
  ·by_cases hb : b = a
   ·subst hb; rw [zq] at z; cases z; exact ha
   ·rw [zF hb] at z; exact R'.sf b u z
  ·by_cases hb : b = a
   ·subst hb; exact .inr (.inl h0)
   ·rw [zF hb] at z; exact R'.nf b u z
  ·obtain ⟨v, p1, p2⟩ := R'.fr i d z
   exact ⟨v, p1, p2.mono sm⟩
  ·obtain ⟨b, p1, p2, p3, p4⟩ := R.ow i sl z o
   obtain ⟨b', r1, r2, r3, r4⟩ := R'.ow i sl z o
   rw [p1] at r1; cases r1
   refine ⟨b, p1, r2.mono (fun u q => q) sm, ?_, r4⟩
   rw [zF]
   ·exact r3
   ·rintro rfl
    obtain ⟨o', q'⟩ := p2.there o
    rw [q'] at hh; cases hh
def vF (i : Nat) : FE := fun ρ => match ρ[i]? with
 | some (.fr d) => some d
 | _ => none
def vR (i : Nat) : FE := fun ρ => match ρ[i]? with
 | some (.fr d) => some d
 | some (.ol ds) => some (.lst ds)
 | _ => none
theorem dv (i : Nat) {x : Str} (hN : X.N[i]? = some x := by rfl) (hv : Vis X.env.scope x := by first | exact Or.inl rfl | exact Or.inr (Or.inl rfl) | exact Or.inr (Or.inr rfl)) (hd : (x == ("__debug__" : Str)) = false := by decide)
  (hcd : (x == ("__classdict__" : Str)) = false := by decide) : DE X (.Name x pos) (vF i) :=
 yy (uj hN hv hd hcd) fun σ H Q ⟨H₀, Hf₀, ρ, Hf, d, R, q, k⟩ => by
  unfold vF at q
  split at q
  ·cases q
   rename_i e
   obtain ⟨v, e1, e2⟩ := R.fr i d e
   exact ⟨v, e1, k v H Hf R zx zx e2⟩
  ·cases q
theorem dvr (i : Nat) {x : Str} (hN : X.N[i]? = some x := by rfl) (hv : Vis X.env.scope x := by first | exact Or.inl rfl | exact Or.inr (Or.inl rfl) | exact Or.inr (Or.inr rfl)) (hd : (x == ("__debug__" : Str)) = false := by decide)
  (hcd : (x == ("__classdict__" : Str)) = false := by decide) : DR X (.Name x pos) (vR i) :=
 yy (uj hN hv hd hcd) fun σ H Q ⟨H₀, Hf₀, ρ, Hf, d, R, q, k⟩ => by
  unfold vR at q
  split at q
  ·cases q
   rename_i e
   obtain ⟨v, e1, e2⟩ := R.fr i d e
   exact ⟨v, e1, k v H Hf R zx zx (.inl e2)⟩
  ·cases q
   rename_i ds e
   obtain ⟨a, e1, e2, _⟩ := R.ow i _ e rfl
   exact ⟨.ref a, e1, k _ H Hf R zx zx (.inr ⟨i, ds, rfl, e, e1⟩)⟩
  ·cases q
def cF (d : D) : FE := fun _ => some d
theorem zk {i : Int} {j pos} : DE X (.Constant (.int i) j pos) (cF (.int i)) := yy D5 fun σ H Q ⟨H₀, Hf₀, ρ, Hf, d, R, q, k⟩ => by cases q; exact k _ _ _ R zx zx (Has.int_iff.mpr rfl)
theorem MF {i : Bool} {j pos} : DE X (.Constant (.bool i) j pos) (cF (.bl i)) := yy Nc fun σ H Q ⟨H₀, Hf₀, ρ, Hf, d, R, q, k⟩ => by cases q; exact k _ _ _ R zx zx (Has.bl_iff.mpr rfl)
theorem CC {j pos} : DE X (.Constant .none j pos) (cF .non) := yy D3 fun σ H Q ⟨H₀, Hf₀, ρ, Hf, d, R, q, k⟩ => by cases q; exact k _ _ _ R zx zx (Has.non_iff.mpr rfl)
theorem Ny {x : Str} {j pos} : DE X (.Constant (.str x) j pos) (cF (.str x)) := yy DV fun σ H Q ⟨H₀, Hf₀, ρ, Hf, d, R, q, k⟩ => by cases q; exact k _ _ _ R zx zx (Has.str_iff.mpr rfl)
def Kq : D -> Option V
 | .non => some .non
 | .bl b => some (.bl b)
 | .int i => some (.int i)
 | .str x => some (.str x)
 | _ => none
theorem Hq {x : Str} {d : D} {v : V} {u : Value} {pos : Pos} (hg : Gl X x) (hm : X.mg x = some u) (hs : Kq d = some v) (r : yV v u) (hd : (x == ("__debug__" : Str)) = false := by decide) : DE X (.Name x pos) (cF d) :=
 yy (Ye hg hm r hd) fun σ H Q ⟨H₀, Hf₀, ρ, Hf, d', R, q, k⟩ => by
  cases q
  refine k _ _ _ R zx zx ?_
  cases d <;> cases hs
  ·exact Has.non_iff.mpr rfl
  ·exact Has.bl_iff.mpr rfl
  ·exact Has.int_iff.mpr rfl
  ·exact Has.str_iff.mpr rfl
def zc (φ : D -> D -> Option D) (f g : FE) : FE := fun ρ => (f ρ).bind fun x => (g ρ).bind fun y => φ x y
def OpD (X : Cx) (r : R2) (φ : D -> D -> Option D) : Prop :=
 ∀ (σ : St) (ρ : Rho) (H₀ Hf₀ H Hf : Hp) (x y : V) (dx dy d : D) (Q : VK), Rep X.K H₀ Hf₀ σ ρ H Hf -> qR X.K Hf σ ρ dx x -> qR X.K Hf σ ρ dy y -> φ dx dy = some d →
  (∀ v H' Hf', Rep X.K H₀ Hf₀ σ ρ H' Hf' -> yi H H' -> yi Hf Hf' -> Has X.K Hf' d v -> Q v H') -> r x y H Q
theorem WV {r : R2} {φ : D -> D -> Option D} (hφ : OpD X r φ) (σ : St) (H : Hp) (Q : VK) (hh : tF X.K (zc φ f g) σ H Q) : tOp r (tR X.K f) (tR X.K g) σ H Q := by
 obtain ⟨H₀, Hf₀, ρ, Hf, d, R, q, k⟩ := hh
 unfold zc at q
 cases hf : f ρ with
 | none => rw [hf] at q; cases q
 | some dx =>
  cases hg : g ρ with
  | none => rw [hf, hg] at q; cases q
  | some dy =>
   rw [hf, hg] at q
   refine ⟨H₀, Hf₀, ρ, Hf, dx, R, hf, fun v H1 Hf1 R1 s1 t1 h1 => ⟨H₀, Hf₀, ρ, Hf1, dy, R1, hg, fun u H2 Hf2 R2 s2 t2 h2 => ?_⟩⟩
   exact hφ σ ρ H₀ Hf₀ H2 Hf2 v u dx dy d Q R2 (h1.mono t2) h2 q fun w' H3 Hf3 R3 s3 t3 h3 => k w' H3 Hf3 R3 ((s1.trans s2).trans s3) ((t1.trans t2).trans t3) h3
theorem Cz {op : Operator} {r : R2} {φ : D -> D -> Option D} (ho : OpR X (binaryOp op) r) (hφ : OpD X r φ) (ha : DR X a f) (hb : DR X b g) : DE X (.BinOp a op b pos) (zc φ f g) :=
 yy (DY ho ha hb) (WV hφ)
theorem CF {op : CmpOp} {r : R2} {φ : D -> D -> Option D} (ho : OpR X (compareOp op) r) (hφ : OpD X r φ) (ha : DR X a f) (hb : DR X b g) (hm : behindInMarks op b = false) : DE X (.Compare a [op] [b] pos) (zc φ f g) :=
 yy (Bl ho ha hb hm) (WV hφ)
theorem NB {r : R2} {φ : D -> D -> Option D} (ho : IxR X r) (hφ : OpD X r φ) (ha : DR X a f) (hb : DR X b g) (hs : WD b) : DE X (.Subscript a b pos) (zc φ f g) :=
 yy (Nb ho ha hb hs) (WV hφ)
section
variable {K : W.Frag} {H₀ Hf₀ : Hp} {σ : St} {ρ : Rho} {H Hf : Hp} {v : V}
theorem qR.int {i : Int} (h : qR K Hf σ ρ (.int i) v) : v = .int i := by
 rcases h with h | ⟨_, _, e, _⟩
 ·exact Has.int_iff.mp h
 ·cases e
theorem qR.bl {i : Bool} (h : qR K Hf σ ρ (.bl i) v) : v = .bl i := by
 rcases h with h | ⟨_, _, e, _⟩
 ·exact Has.bl_iff.mp h
 ·cases e
theorem qR.str {i : Str} (h : qR K Hf σ ρ (.str i) v) : v = .str i := by
 rcases h with h | ⟨_, _, e, _⟩
 ·exact Has.str_iff.mp h
 ·cases e
theorem qR.non (h : qR K Hf σ ρ .non v) : v = .non := by
 rcases h with h | ⟨_, _, e, _⟩
 ·exact Has.non_iff.mp h
 ·cases e
theorem qR.tup {ds : List D} (h : qR K Hf σ ρ (.tup ds) v) (R : Rep K H₀ Hf₀ σ ρ H Hf) : ∃ a xs, v = .ref a /\ SqT K H a xs /\ zP K Hf ds xs := by
 rcases h with h | ⟨_, _, e, _⟩
 ·obtain ⟨a, xs, e, q, l⟩ := Has.tup_iff.mp h
  exact ⟨a, xs, e, uZ R.sf q, l⟩
 ·cases e
theorem qR.lst {ds : List D} (h : qR K Hf σ ρ (.lst ds) v) (R : Rep K H₀ Hf₀ σ ρ H Hf) : ∃ a xs, v = .ref a /\ SqL K H a xs /\ zP K Hf ds xs := by
 rcases h with h | ⟨i, ds', e, e1, e2⟩
 ·obtain ⟨a, xs, e, q, l⟩ := Has.lst_iff.mp h
  exact ⟨a, xs, e, R.sf.seq q, l⟩
 ·cases e
  obtain ⟨a, p1, ⟨xs, p2, p3⟩, _⟩ := R.ow i _ e1 rfl
  rw [e2] at p1; cases p1
  exact ⟨a, xs, rfl, SqL.of p2, p3⟩
end
def iiD (φ : Int -> Int -> Option D) : D -> D -> Option D
 | .int i, .int j => φ i j
 | _, _ => none
theorem Vs {φ : Int -> Int -> Option D} {x y d : D} (h : iiD φ x y = some d) : ∃ i j, x = .int i /\ y = .int j /\ φ i j = some d := by
 cases x <;> cases y <;> first | cases h | exact ⟨_, _, rfl, rfl, h⟩
theorem Vt {K : W.Frag} {H : Hp} {d : D} {v : V} (h : Kq d = some v) : Has K H d v := by
 cases d <;> cases h
 ·exact Has.non_iff.mpr rfl
 ·exact Has.bl_iff.mpr rfl
 ·exact Has.int_iff.mpr rfl
 ·exact Has.str_iff.mpr rfl
theorem Vf {C : Int -> Int -> Prop} {gv : Int -> Int -> V} {φ : Int -> Int -> Option D} (h : ∀ i j d, φ i j = some d -> C i j /\ Kq d = some (gv i j)) : OpD X (rI C gv) (iiD φ) := by
 intro σ ρ H₀ Hf₀ H Hf x y dx dy d Q R hx hy hφ k
 obtain ⟨i, j, rfl, rfl, hd⟩ := Vs hφ
 obtain ⟨c, s⟩ := h i j d hd
 exact ⟨i, j, hx.int, hy.int, c, k _ _ _ R zx zx (Vt s)⟩
theorem Yg {gv : Int -> Int -> V} {φ : Int -> Int -> Option D} (h : ∀ i j d, φ i j = some d -> Kq d = some (gv i j)) : OpD X (rI0 gv) (iiD φ) := by
 intro σ ρ H₀ Hf₀ H Hf x y dx dy d Q R hx hy hφ k
 obtain ⟨i, j, rfl, rfl, hd⟩ := Vs hφ
 exact ⟨i, j, hx.int, hy.int, k _ _ _ R zx zx (Vt (h i j d hd))⟩
end
def big : Nat := 2 ^ 8000
theorem Yy {i : Int} (h : i.natAbs < big) : Builtin.Int.intBits i <= 8001 := by
 unfold Builtin.Int.intBits
 split
 ·exact g2e _
 ·have : i.natAbs.log2 < 8000 := by
   rcases Nat.eq_zero_or_pos i.natAbs with h0 | hp
   ·rw [h0]; decide
   ·exact (Nat.log2_lt (Nat.ne_of_gt hp)).mpr h
  omega
def UP (i j : Int) : Prop := i.natAbs < 2 ^ 64 \/ j.natAbs < 2 ^ 64 \/ (i.natAbs < big /\ j.natAbs < big)
instance (i j : Int) : Decidable (UP i j) := by unfold UP; exact inferInstance
theorem UP.ok {i j : Int} (h : UP i j) : IntMulOk i j := by
 rcases h with h | h | ⟨h1, h2⟩
 ·exact .of_left (intBits_le_64 (by omega) (by omega))
 ·exact .of_right (intBits_le_64 (by omega) (by omega))
 ·exact IntMulOk.of_le (Yy h1) (Yy h2) (by decide)
def C1 (j : Int) : Prop := 0 < j /\ j < 2 ^ 64
instance (j : Int) : Decidable (C1 j) := by unfold C1; exact inferInstance
def CT (i j : Int) : Prop := 0 <= j /\ j <= 1000 /\ i.natAbs < big
instance (i j : Int) : Decidable (CT i j) := by unfold CT; exact inferInstance
section
variable {X : Cx} {e a b c : Expr} {es : List Expr} {f g h : FE} {fa ga : FA} {ft gt : FT} {pos : Pos} {t t' : TE}
theorem Qu : OpR X (binaryOp .Mult) (rI UP fun i j => .int (i * j)) := opI fun _ _ _ _ _ _ _ hc q => mul_int q hc.ok
theorem KO : OpR X (binaryOp .FloorDiv) (rI (fun _ j => C1 j) fun i j => .int (i / j)) := opI fun i j _ _ _ _ _ hc q => by
 have h1 : (0 : Int) < j := hc.1
 have h2 : j < 2 ^ 64 := hc.2
 refine floordiv_int (by omega) (by rw [Int.fdiv_eq_ediv_of_nonneg i (by omega)]; exact q) (.inl (PyProof.noPylong_of_log2 ?_))
 have hn : j.natAbs < 2 ^ 64 := by omega
 have : j.natAbs.log2 < 64 := (Nat.log2_lt (by omega)).mpr hn
 omega
theorem Bp : OpR X (binaryOp .Pow) (rI CT fun i j => .int (i ^ j.toNat)) := opI fun i j _ _ _ _ _ hc q => by
 obtain ⟨h1, h2, h3⟩ := hc
 refine pow_int h1 ?_ q
 have hb := Yy h3
 have : (Builtin.Int.intBits i : Int) * j <= 8001 * 1000 := Int.mul_le_mul (by omega) h2 h1 (by decide)
 exact Int.le_trans this (by decide)
def u5 : D -> D -> Option D := iiD fun i j => if UP i j then some (.int (i * j)) else none
def jT : D -> D -> Option D := iiD fun i j => some (.int (i - j))
def kh : D -> D -> Option D := iiD fun i j => if 0 < j then some (.int (i % j)) else none
def ur : D -> D -> Option D := iiD fun i j => if C1 j then some (.int (i / j)) else none
def CW : D -> D -> Option D := iiD fun i j => if CT i j then some (.int (i ^ j.toNat)) else none
theorem Qw : OpD X (rI UP fun i j => .int (i * j)) u5 := Vf fun i j d q => by
 split at q
 ·cases q; exact ⟨by assumption, rfl⟩
 ·cases q
theorem Bx : OpD X (rI0 fun i j => .int (i - j)) jT := Yg fun i j d q => by cases q; rfl
theorem Bz : OpD X (rI (fun _ j => 0 < j) fun i j => .int (i % j)) kh := Vf fun i j d q => by
 split at q
 ·cases q; exact ⟨by assumption, rfl⟩
 ·cases q
theorem KW : OpD X (rI (fun _ j => C1 j) fun i j => .int (i / j)) ur := Vf fun i j d q => by
 split at q
 ·cases q; exact ⟨by assumption, rfl⟩
 ·cases q
theorem By : OpD X (rI CT fun i j => .int (i ^ j.toNat)) CW := Vf fun i j d q => by
 split at q
 ·cases q; exact ⟨by assumption, rfl⟩
 ·cases q
theorem kK (ha : DR X a f) (hb : DR X b g) : DE X (.BinOp a .Sub b pos) (zc jT f g) := Cz D8 Bx ha hb
theorem uR (ha : DR X a f) (hb : DR X b g) : DE X (.BinOp a .Mult b pos) (zc u5 f g) := Cz Qu Qw ha hb
theorem qg (ha : DR X a f) (hb : DR X b g) : DE X (.BinOp a .Mod b pos) (zc kh f g) := Cz Fb Bz ha hb
theorem qG (ha : DR X a f) (hb : DR X b g) : DE X (.BinOp a .FloorDiv b pos) (zc ur f g) := Cz KO KW ha hb
theorem Mf (ha : DR X a f) (hb : DR X b g) : DE X (.BinOp a .Pow b pos) (zc CW f g) := Cz Bp By ha hb
def PL : D -> D -> Option D
 | .int i, .int j => some (.int (i + j))
 | .str x, .str y => if x.length + y.length <= sizeLine then some (.str (x ++ y)) else none
 | .lst xs, .lst ys => if xs.length + ys.length <= sizeLine then some (.lst (xs ++ ys)) else none
 | .tup (x :: xs), .tup ys => if xs.length + 1 + ys.length <= sizeLine then some (.tup (x :: xs ++ ys)) else none
 | _, _ => none
def wG (φ : D -> Option D) (f : FE) : FE := fun ρ => (f ρ).bind φ
def Y4 : D -> Option D
 | .int i => some (.int (-i))
 | _ => none
theorem Yu (ha : DR X a f) : DE X (.UnaryOp .USub a pos) (wG Y4 f) :=
 yy (Na C7 ha) fun σ H Q ⟨H₀, Hf₀, ρ, Hf, d, R, q, k⟩ => by
  unfold wG at q
  cases hf : f ρ with
  | none => rw [hf] at q; cases q
  | some x =>
   rw [hf] at q
   cases x <;> try cases q
   exact ⟨H₀, Hf₀, ρ, Hf, _, R, hf, fun v H1 Hf1 R1 s1 t1 h1 => ⟨_, h1.int, k _ _ _ R1 s1 t1 (Has.int_iff.mpr rfl)⟩⟩
def ltD : D -> D -> Option D := iiD fun i j => some (.bl (decide (i < j)))
def gtD : D -> D -> Option D := iiD fun i j => some (.bl (decide (j < i)))
def geD : D -> D -> Option D := iiD fun i j => some (.bl (decide (j <= i)))
theorem Fe : OpD X (rI0 fun i j => .bl (decide (i < j))) ltD := Yg fun i j d q => by cases q; rfl
theorem Fg : OpD X (rI0 fun i j => .bl (decide (j < i))) gtD := Yg fun i j d q => by cases q; rfl
theorem Fh : OpD X (rI0 fun i j => .bl (decide (j <= i))) geD := Yg fun i j d q => by cases q; rfl
def isD (neg : Bool) : D -> D -> Option D := fun x y => match y with
 | .non => match x with
  | .non => some (.bl (!neg))
  | _ => some (.bl neg)
 | _ => none
theorem Gs {K : W.Frag} {Hf : Hp} {σ : St} {ρ : Rho} {x : D} {v : V} (h : qR K Hf σ ρ x v) (R : ∃ H₀ Hf₀ H, Rep K H₀ Hf₀ σ ρ H Hf) : decide (v = V.non) = (match x with | .non => true | _ => false) := by
 obtain ⟨H₀, Hf₀, H, R⟩ := R
 cases x with
 | non => cases h.non; rfl
 | bl b => cases h.bl; rfl
 | int b => cases h.int; rfl
 | str b => cases h.str; rfl
 | tup ds => obtain ⟨a, xs, rfl, _⟩ := h.tup R; rfl
 | lst ds => obtain ⟨a, xs, rfl, _⟩ := h.lst R; rfl
theorem Qx : OpD X (fun x y H Q => y = .non /\ Q (.bl (!decide (x = .non))) H) (isD true) := by
 intro σ ρ H₀ Hf₀ H Hf x y dx dy d Q R hx hy hφ k
 cases dy <;> try cases hφ
 have e := Gs hx ⟨_, _, _, R⟩
 refine ⟨hy.non, ?_⟩
 rw [e]
 cases dx <;> cases hφ <;> exact k _ _ _ R zx zx (Has.bl_iff.mpr rfl)
def ixD : D -> D -> Option D
 | .tup ds, .int i => atI ds i
 | .lst ds, .int i => atI ds i
 | .str z, .int i => if z.length <= sizeLine then (atI z.cps.toList i).map fun c => .str ⟨#[c]⟩ else none
 | _, _ => none
theorem zP.atI {K : W.Frag} {H : Hp} {ds : List D} {xs : List V} {i : Int} {d : D} (h : zP K H ds xs) (e : L2.atI ds i = some d) : ∃ v, L2.atI xs i = some v /\ Has K H d v := by
 unfold L2.atI at e ⊢
 rw [h.length]
 cases hj : ixN ds.length i with
 | none => rw [hj] at e; cases e
 | some j =>
  rw [hj] at e
  exact h.get e
theorem Ff : OpD X (rIx X.K) ixD := by
 intro σ ρ H₀ Hf₀ H Hf x y dx dy d Q R hx hy hφ k
 unfold ixD at hφ
 split at hφ
 ·obtain ⟨a, xs, rfl, qa, la⟩ := hx.tup R
  obtain ⟨v, e1, e2⟩ := la.atI hφ
  exact .inr (.inl ⟨a, xs, _, v, rfl, hy.int, qa, e1, k _ _ _ R zx zx e2⟩)
 ·obtain ⟨a, xs, rfl, qa, la⟩ := hx.lst R
  obtain ⟨v, e1, e2⟩ := la.atI hφ
  exact .inl ⟨a, xs, _, v, rfl, hy.int, qa, e1, k _ _ _ R zx zx e2⟩
 ·split at hφ
  ·rename_i z i hz
   cases e : atI z.cps.toList i with
   | none => rw [e] at hφ; cases hφ
   | some c =>
    rw [e] at hφ
    cases hφ
    exact .inr (.inr ⟨z, i, c, hx.str, hy.int, hz, e, k _ _ _ R zx zx (Has.str_iff.mpr rfl)⟩)
  ·cases hφ
 ·cases hφ
theorem wN (ha : DR X a f) (hb : DR X b g) (hs : WD b := by intro _ _; rfl) : DE X (.Subscript a b pos) (zc ixD f g) := NB FH Ff ha hb hs
def zw : FA := fun _ => some []
def za (f : FE) (g : FA) : FA := fun ρ => (f ρ).bind fun x => (g ρ).bind fun xs => some (x :: xs)
theorem jo {f : FE} {g : FA} {ρ : Rho} {l : List D} (h : za f g ρ = some l) : ∃ x xs, f ρ = some x /\ g ρ = some xs /\ l = x :: xs := by
 unfold za at h
 cases hf : f ρ with
 | none => rw [hf] at h; cases h
 | some x =>
  cases hg : g ρ with
  | none => rw [hf, hg] at h; cases h
  | some xs => rw [hf, hg] at h; cases h; exact ⟨x, xs, rfl, rfl, rfl⟩
theorem zl : DA X [] zw := Vc uT fun σ H Q ⟨H₀, Hf₀, ρ, Hf, d, R, q, k⟩ => by cases q; exact k _ _ _ R zx zx .nil
theorem zb (ha : DE X e f) (hr : DA X es fa) (hs : starEach (e :: es) X.env = (false, eval e X.env) :: starEach es X.env := by rfl) : DA X (e :: es) (za f fa) :=
 Vc (wm ha hr hs) fun σ H Q ⟨H₀, Hf₀, ρ, Hf, d, R, q, k⟩ => by
  obtain ⟨x, xs, e1, e2, rfl⟩ := jo q
  exact ⟨H₀, Hf₀, ρ, Hf, x, R, e1, fun v H1 Hf1 R1 s1 t1 h1 => ⟨H₀, Hf₀, ρ, Hf1, xs, R1, e2, fun vs H2 Hf2 R2 s2 t2 h2 => k _ _ _ R2 (s1.trans s2) (t1.trans t2) (.cons (h1.mono t2) h2)⟩⟩
theorem z6 : DAR X [] zw := Vc uT fun σ H Q ⟨H₀, Hf₀, ρ, Hf, d, R, q, k⟩ => by cases q; exact k _ _ _ R zx zx .nil
theorem zB (ha : DR X e f) (hr : DAR X es fa) (hs : starEach (e :: es) X.env = (false, eval e X.env) :: starEach es X.env := by rfl) : DAR X (e :: es) (za f fa) :=
 Vc (wm ha hr hs) fun σ H Q ⟨H₀, Hf₀, ρ, Hf, d, R, q, k⟩ => by
  obtain ⟨x, xs, e1, e2, rfl⟩ := jo q
  exact ⟨H₀, Hf₀, ρ, Hf, x, R, e1, fun v H1 Hf1 R1 s1 t1 h1 => ⟨H₀, Hf₀, ρ, Hf1, xs, R1, e2, fun vs H2 Hf2 R2 s2 t2 h2 => k _ _ _ R2 (s1.trans s2) (t1.trans t2) (.cons (h1.mono t2) h2)⟩⟩
def tupF (g : FA) : FE := fun ρ => (g ρ).bind fun xs => if xs.length <= sizeLine then some (.tup xs) else none
theorem uQ {x1} (h : DA X es fa) : DE X (.Tuple es x1 pos) (tupF fa) :=
 yy (Qp h) fun σ H Q ⟨H₀, Hf₀, ρ, Hf, d, R, q, k⟩ => by
  unfold tupF at q
  cases hg : fa ρ with
  | none => rw [hg] at q; cases q
  | some xs =>
   rw [hg] at q
   simp only [g0a] at q
   split at q
   ·cases q
    rename_i hl
    refine ⟨H₀, Hf₀, ρ, Hf, xs, R, hg, fun vs H1 Hf1 R1 s1 t1 h1 => ⟨by rw [h1.length]; exact hl, fun p hp => ?_⟩⟩
    have sm := zy (o := .tup vs) (R1.sf.free hp)
    exact k _ _ _ (R1.lay hp) (s1.trans (zy hp)) (t1.trans sm) (Has.tup_iff.mpr ⟨p, vs, rfl, SqT.of zq, h1.mono sm⟩)
   ·cases q
def Zm (g : FA) : FA := fun ρ => (g ρ).bind fun xs => if xs.length <= sizeLine then some xs else none
theorem ub (h : DA X es fa) : DN X (.List es pos) (Zm fa) :=
 yy (D4 h) fun σ H Q ⟨H₀, Hf₀, ρ, Hf, d, R, q, k⟩ => by
  unfold Zm at q
  cases hg : fa ρ with
  | none => rw [hg] at q; cases q
  | some xs =>
   rw [hg] at q
   simp only [g0a] at q
   split at q
   ·cases q
    rename_i hl
    refine ⟨H₀, Hf₀, ρ, Hf, _, R, hg, fun vs H1 Hf1 R1 s1 t1 h1 => ⟨by rw [h1.length]; exact hl, fun p hp => ?_⟩⟩
    exact k _ _ _ _ (R1.layN hp) (s1.trans (zy hp)) t1 h1 zq (R1.sf.free hp) (s1.free hp)
   ·cases q
def blF (f : FE) : FT := fun ρ => (f ρ).bind fun | .bl b => some b | _ => none
theorem VH {f : FE} {ρ : Rho} {b : Bool} (h : blF f ρ = some b) : f ρ = some (.bl b) := by
 unfold blF at h
 cases hf : f ρ with
 | none => rw [hf] at h; cases h
 | some x => rw [hf] at h; cases x <;> cases h; rfl
theorem VB (h : DR X e f) (he : ∀ whole, isTrue e X.env whole = (do let v ← whole; standAt e.pos; holding [v] (truthy v)) := by intro _; rfl) : DT X e (blF f) :=
 Qh (DD h he) fun σ H Q ⟨H₀, Hf₀, ρ, Hf, d, R, q, k⟩ => ⟨H₀, Hf₀, ρ, Hf, _, R, VH q, fun v H1 Hf1 R1 s1 t1 h1 => ⟨d, h1.bl, k _ _ R1 s1 t1⟩⟩
theorem xH {op : CmpOp} {r : R2} {φ : D -> D -> Option D} (ho : OpR X (compareOp op) r) (hφ : OpD X r φ) (ha : DR X a f) (hb : DR X b g) (hm : behindInMarks op b = false) : DT X (.Compare a [op] [b] pos) (blF (zc φ f g)) :=
 Qh (Bc ho ha hb hm) fun σ H Q ⟨H₀, Hf₀, ρ, Hf, d, R, q, k⟩ => WV hφ σ H _ ⟨H₀, Hf₀, ρ, Hf, _, R, VH q, fun v H1 Hf1 R1 s1 t1 h1 => ⟨d, Has.bl_iff.mp h1, k _ _ R1 s1 t1⟩⟩
theorem Ck (ha : DR X a f) (hb : DR X b g) : DT X (.Compare a [.Lt] [b] pos) (blF (zc ltD f g)) := xH Nf Fe ha hb (jE _)
theorem Cm (ha : DR X a f) (hb : DR X b g) : DT X (.Compare a [.Gt] [b] pos) (blF (zc gtD f g)) := xH Ng Fg ha hb (jE _)
theorem Cn (ha : DR X a f) (hb : DR X b g) : DT X (.Compare a [.GtE] [b] pos) (blF (zc geD f g)) := xH Nh Fh ha hb (jE _)
theorem GE (ha : DR X a f) (hb : DR X b g) : DT X (.Compare a [.IsNot] [b] pos) (blF (zc (isD true) f g)) := xH Bq Qx ha hb (jE _)
def XQ (f g : FT) : FT := fun ρ => (f ρ).bind fun b => if b = true then g ρ else some false
def orT (f g : FT) : FT := fun ρ => (f ρ).bind fun b => if b = true then some true else g ρ
def BI (f : FT) : FT := fun ρ => (f ρ).bind fun b => some (!b)
variable {jU : List Expr}
theorem xU {α : Type} {f : Rho -> Option Bool} {k : Bool -> Option α} {ρ : Rho} {r : α} (h : (f ρ).bind k = some r) : ∃ b, f ρ = some b /\ k b = some r := by
 cases hf : f ρ with
 | none => rw [hf] at h; cases h
 | some x => rw [hf] at h; exact ⟨x, rfl, h⟩
theorem jk (ha : DT X a ft) : DW X (.BoolOp .And [a] pos) ft := Bb ha
theorem Hn (ha : DT X a ft) : DW X (.BoolOp .Or [a] pos) ft := DB ha
theorem ZO (ha : DT X a ft) (hb : DW X (.BoolOp .And (b :: jU) pos) gt) : DW X (.BoolOp .And (a :: b :: jU) pos) (XQ ft gt) :=
 G7 (DC ha hb) fun σ H Q ⟨H₀, Hf₀, ρ, Hf, d, R, q, k⟩ => by
  obtain ⟨b, e1, e2⟩ := xU q
  refine ⟨H₀, Hf₀, ρ, Hf, b, R, e1, fun H1 Hf1 R1 s1 t1 => ?_⟩
  cases b with
  | true => exact Ca ⟨H₀, Hf₀, ρ, Hf1, d, R1, e2, fun H2 Hf2 R2 s2 t2 => k _ _ R2 (s1.trans s2) (t1.trans t2)⟩
  | false => cases e2; exact Cb (k _ _ R1 s1 t1)
theorem Ci (ha : DT X a ft) (hb : DW X (.BoolOp .Or (b :: jU) pos) gt) : DW X (.BoolOp .Or (a :: b :: jU) pos) (orT ft gt) :=
 G7 (M8 ha hb) fun σ H Q ⟨H₀, Hf₀, ρ, Hf, d, R, q, k⟩ => by
  obtain ⟨b, e1, e2⟩ := xU q
  refine ⟨H₀, Hf₀, ρ, Hf, b, R, e1, fun H1 Hf1 R1 s1 t1 => ?_⟩
  cases b with
  | false => exact Cb ⟨H₀, Hf₀, ρ, Hf1, d, R1, e2, fun H2 Hf2 R2 s2 t2 => k _ _ R2 (s1.trans s2) (t1.trans t2)⟩
  | true => cases e2; exact Ca (k _ _ R1 s1 t1)
theorem DW.dt (h : DW X e ft) : DT X e ft := PW.pt h
theorem Jl (ha : DT X a ft) : DT X (.UnaryOp .Not a pos) (BI ft) :=
 Qh (DF ha) fun σ H Q ⟨H₀, Hf₀, ρ, Hf, d, R, q, k⟩ => by
  obtain ⟨b, e1, e2⟩ := xU q
  cases e2
  exact ⟨H₀, Hf₀, ρ, Hf, b, R, e1, fun H1 Hf1 R1 s1 t1 => k _ _ R1 s1 t1⟩
def Mv (f g : FE) : FE := fun ρ => (f ρ).bind fun | .bl b => (if b = true then g ρ else some (.bl false)) | _ => none
def Nj (f : FE) : FE := fun ρ => (f ρ).bind fun | .bl b => some (.bl (!b)) | _ => none
theorem zL {α : Type} {f : FE} {k : D -> Option α} {ρ : Rho} {r : α} (h : (f ρ).bind k = some r) : ∃ b, f ρ = some b /\ k b = some r := by
 cases hf : f ρ with
 | none => rw [hf] at h; cases h
 | some x => rw [hf] at h; exact ⟨x, rfl, h⟩
theorem CA {op} (h : DE X a f) : DE X (.BoolOp op [a] pos) f := DZ h
theorem CG (ha : DE X a f) (hb : DE X (.BoolOp .And (b :: jU) pos) g) : DE X (.BoolOp .And (a :: b :: jU) pos) (Mv f g) :=
 yy (D7 ha hb) fun σ H Q ⟨H₀, Hf₀, ρ, Hf, d, R, q, k⟩ => by
  obtain ⟨x, e1, e2⟩ := zL q
  cases x <;> try cases e2
  rename_i b
  refine ⟨H₀, Hf₀, ρ, Hf, _, R, e1, fun v H1 Hf1 R1 s1 t1 h1 => ⟨b, Has.bl_iff.mp h1, ?_⟩⟩
  cases b with
  | true => exact Ca ⟨H₀, Hf₀, ρ, Hf1, d, R1, e2, fun v H2 Hf2 R2 s2 t2 h2 => k _ _ _ R2 (s1.trans s2) (t1.trans t2) h2⟩
  | false => cases e2; exact Cb (k _ _ _ R1 s1 t1 (Has.bl_iff.mpr rfl))
theorem NA (ha : DE X a f) : DE X (.UnaryOp .Not a pos) (Nj f) :=
 yy (D0 ha) fun σ H Q ⟨H₀, Hf₀, ρ, Hf, d, R, q, k⟩ => by
  obtain ⟨x, e1, e2⟩ := zL q
  cases x <;> try cases e2
  rename_i b
  exact ⟨H₀, Hf₀, ρ, Hf, _, R, e1, fun v H1 Hf1 R1 s1 t1 h1 => ⟨b, Has.bl_iff.mp h1, k _ _ _ R1 s1 t1 (Has.bl_iff.mpr rfl)⟩⟩
def ifF (c : FT) (f g : FE) : FE := fun ρ => (c ρ).bind fun b => if b = true then f ρ else g ρ
theorem JA (hc : DT X c ft) (ha : DE X a f) (hb : DE X b g) : DE X (.IfExp c a b pos) (ifF ft f g) :=
 yy (KI hc ha hb) fun σ H Q ⟨H₀, Hf₀, ρ, Hf, d, R, q, k⟩ => by
  obtain ⟨x, e1, e2⟩ := xU q
  refine ⟨H₀, Hf₀, ρ, Hf, x, R, e1, fun H1 Hf1 R1 s1 t1 => ?_⟩
  cases x with
  | true => exact Ca ⟨H₀, Hf₀, ρ, Hf1, d, R1, e2, fun v H2 Hf2 R2 s2 t2 h2 => k _ _ _ R2 (s1.trans s2) (t1.trans t2) h2⟩
  | false => exact Cb ⟨H₀, Hf₀, ρ, Hf1, d, R1, e2, fun v H2 Hf2 R2 s2 t2 h2 => k _ _ _ R2 (s1.trans s2) (t1.trans t2) h2⟩
end
mutual
def eqD : D -> D -> Bool
 | .non, .non => true
 | .bl a, .bl b => a == b
 | .bl a, .int b => (if a then 1 else 0) == b
 | .int a, .bl b => a == (if b then 1 else 0)
 | .int a, .int b => a == b
 | .str a, .str b => a == b
 | .tup a, .tup b => ZN a b
 | .lst a, .lst b => ZN a b
 | _, _ => false
def ZN : List D -> List D -> Bool
 | [], [] => true
 | x :: xs, y :: ys => eqD x y && ZN xs ys
 | _, _ => false
end
mutual
def dep : D -> Nat
 | .tup a => uN a + 1
 | .lst a => uN a + 1
 | _ => 0
def uN : List D -> Nat
 | [] => 0
 | x :: xs => max (dep x) (uN xs)
end
theorem qf {l : List D} {k : Nat} (h : ∀ d ∈ l, dep d <= k) : uN l <= k := by
 induction l with
 | nil => simp [uN]
 | cons x xs ih =>
  unfold uN
  exact Nat.max_le.mpr ⟨h x g0l, ih fun d hd => h d (g0o _ hd)⟩
mutual
theorem vU : ∀ d : D, eqD d d = true
 | .non => by simp [eqD]
 | .bl b => by simp [eqD]
 | .int i => by simp [eqD]
 | .str x => by simp [eqD]
 | .tup ds => by unfold eqD; exact kJ ds
 | .lst ds => by unfold eqD; exact kJ ds
theorem kJ : ∀ ds : List D, ZN ds ds = true
 | [] => by simp [ZN]
 | d :: ds => by unfold ZN; rw [vU d, kJ ds]; rfl
end
theorem qd : ∀ (xs ys : List D), ZN xs ys = ((g0u (min xs.length ys.length)).all (fun j => eqD (xs.getD j .non) (ys.getD j .non)) && xs.length == ys.length)
 | [], [] => by simp [ZN]
 | [], y :: ys => by simp [ZN]
 | x :: xs, [] => by simp [ZN]
 | x :: xs, y :: ys => by
  unfold ZN
  rw [qd xs ys]
  have e : min (x :: xs).length (y :: ys).length = min xs.length ys.length + 1 := by simp only [g0d]; omega
  rw [e, g1m, List.all_cons, List.all_map]
  simp [Function.comp_def, Bool.and_assoc]
section
variable {X : Cx} {pins : List (Addr × Obj)} {σ : St} {H Hf : Hp} {s : Shared}
mutual
theorem Has.inj (I : Inv X pins σ H s) : ∀ {d d' : D} {v : V}, Has X.K H d v -> Has X.K H d' v -> d = d'
 | .non, d', v, h, h' => by
  rw [Has.non_iff] at h; subst h
  cases d' with
  | non => rfl
  | bl b => cases Has.bl_iff.mp h'
  | int b => cases Has.int_iff.mp h'
  | str b => cases Has.str_iff.mp h'
  | tup b => obtain ⟨_, _, e, _⟩ := Has.tup_iff.mp h'; cases e
  | lst b => obtain ⟨_, _, e, _⟩ := Has.lst_iff.mp h'; cases e
 | .bl x, d', v, h, h' => by
  rw [Has.bl_iff] at h; subst h
  cases d' with
  | non => cases Has.non_iff.mp h'
  | bl b => cases Has.bl_iff.mp h'; rfl
  | int b => cases Has.int_iff.mp h'
  | str b => cases Has.str_iff.mp h'
  | tup b => obtain ⟨_, _, e, _⟩ := Has.tup_iff.mp h'; cases e
  | lst b => obtain ⟨_, _, e, _⟩ := Has.lst_iff.mp h'; cases e
 | .int x, d', v, h, h' => by
  rw [Has.int_iff] at h; subst h
  cases d' with
  | non => cases Has.non_iff.mp h'
  | bl b => cases Has.bl_iff.mp h'
  | int b => cases Has.int_iff.mp h'; rfl
  | str b => cases Has.str_iff.mp h'
  | tup b => obtain ⟨_, _, e, _⟩ := Has.tup_iff.mp h'; cases e
  | lst b => obtain ⟨_, _, e, _⟩ := Has.lst_iff.mp h'; cases e
 | .str x, d', v, h, h' => by
  rw [Has.str_iff] at h; subst h
  cases d' with
  | non => cases Has.non_iff.mp h'
  | bl b => cases Has.bl_iff.mp h'
  | int b => cases Has.int_iff.mp h'
  | str b => cases Has.str_iff.mp h'; rfl
  | tup b => obtain ⟨_, _, e, _⟩ := Has.tup_iff.mp h'; cases e
  | lst b => obtain ⟨_, _, e, _⟩ := Has.lst_iff.mp h'; cases e
 | .tup x, d', v, h, h' => by
  obtain ⟨a, xs, rfl, qa, la⟩ := Has.tup_iff.mp h
  cases d' with
  | non => cases Has.non_iff.mp h'
  | bl b => cases Has.bl_iff.mp h'
  | int b => cases Has.int_iff.mp h'
  | str b => cases Has.str_iff.mp h'
  | tup b =>
   obtain ⟨a', ys, e, qb, lb⟩ := Has.tup_iff.mp h'
   cases e
   cases I.tuple_inj qa qb
   rw [zP.inj I la lb]
  | lst b =>
   obtain ⟨a', ys, e, qb, lb⟩ := Has.lst_iff.mp h'
   cases e
   obtain ⟨its, _, p1, _⟩ := I.tuple qa
   obtain ⟨its', _, p2, _⟩ := I.list qb
   exact absurd rfl (SeqAt.ne_of_list_tuple p2.isList p1)
 | .lst x, d', v, h, h' => by
  obtain ⟨a, xs, rfl, qa, la⟩ := Has.lst_iff.mp h
  cases d' with
  | non => cases Has.non_iff.mp h'
  | bl b => cases Has.bl_iff.mp h'
  | int b => cases Has.int_iff.mp h'
  | str b => cases Has.str_iff.mp h'
  | lst b =>
   obtain ⟨a', ys, e, qb, lb⟩ := Has.lst_iff.mp h'
   cases e
   cases I.list_inj qa qb
   rw [zP.inj I la lb]
  | tup b =>
   obtain ⟨a', ys, e, qb, lb⟩ := Has.tup_iff.mp h'
   cases e
   obtain ⟨its, _, p1, _⟩ := I.tuple qb
   obtain ⟨its', _, p2, _⟩ := I.list qa
   exact absurd rfl (SeqAt.ne_of_list_tuple p2.isList p1)
theorem zP.inj (I : Inv X pins σ H s) : ∀ {ds ds' : List D} {xs : List V}, zP X.K H ds xs -> zP X.K H ds' xs -> ds = ds'
 | [], ds', xs, h, h' => by
  rw [zP.nil_iff] at h; subst h
  cases ds' with
  | nil => rfl
  | cons d r => obtain ⟨_, _, e, _⟩ := zP.cons_iff.mp h'; cases e
 | d :: ds, ds', xs, h, h' => by
  obtain ⟨x, r, rfl, h1, h2⟩ := zP.cons_iff.mp h
  cases ds' with
  | nil => rw [zP.nil_iff] at h'; cases h'
  | cons d' r' =>
   obtain ⟨x', r'', e, h1', h2'⟩ := zP.cons_iff.mp h'
   cases e
   rw [Has.inj I h1 h1', zP.inj I h2 h2']
end
open SeqAt in
mutual
theorem Ji (I : Inv X pins σ H s) : ∀ (d : D) (A : Around) (d' : D) (v v' : V) (u u' : Value), Has X.K H d v -> Has X.K H d' v' -> yV v u -> yV v' u' -> A.units + dep d < cLine -> EqAt A s u u' (eqD d d')
 | .non, A, d', v, v', u, u', h, h', r, r', hu => by
  have hu : A.units < cLine := by omega
  rw [Has.non_iff] at h; subst h
  cases r
  cases d' with
  | non => rw [Has.non_iff] at h'; subst h'; cases r'; exact EqAt.same _
  | bl b => rw [Has.bl_iff] at h'; subst h'; cases r'; exact EqAt.none_bool _
  | int b => rw [Has.int_iff] at h'; subst h'; obtain ⟨t, rfl⟩ := r'; exact EqAt.none_int _ _
  | str b => rw [Has.str_iff] at h'; subst h'; obtain ⟨t, rfl⟩ := r'; exact EqAt.none_str _ _
  | tup b => obtain ⟨a, xs, rfl, q, _⟩ := Has.tup_iff.mp h'; cases r'; obtain ⟨its, _, p, _⟩ := I.tuple q; exact EqAt.none_tuple p hu
  | lst b => obtain ⟨a, xs, rfl, q, _⟩ := Has.lst_iff.mp h'; cases r'; obtain ⟨its, _, p, _⟩ := I.list q; exact EqAt.none_list p.isList hu
 | .bl x, A, d', v, v', u, u', h, h', r, r', hu => by
  have hu : A.units < cLine := by omega
  rw [Has.bl_iff] at h; subst h
  cases r
  cases d' with
  | non => rw [Has.non_iff] at h'; subst h'; cases r'; exact EqAt.bool_none _
  | bl b => rw [Has.bl_iff] at h'; subst h'; cases r'; exact EqAt.bool_bool _ _
  | int b => rw [Has.int_iff] at h'; subst h'; obtain ⟨t, rfl⟩ := r'; exact EqAt.bool_int _ _ _
  | str b => rw [Has.str_iff] at h'; subst h'; obtain ⟨t, rfl⟩ := r'; exact EqAt.bool_str _ _ _
  | tup b => obtain ⟨a, xs, rfl, q, _⟩ := Has.tup_iff.mp h'; cases r'; obtain ⟨its, _, p, _⟩ := I.tuple q; exact EqAt.bool_tuple _ p hu
  | lst b => obtain ⟨a, xs, rfl, q, _⟩ := Has.lst_iff.mp h'; cases r'; obtain ⟨its, _, p, _⟩ := I.list q; exact EqAt.bool_list _ p.isList hu
 | .int x, A, d', v, v', u, u', h, h', r, r', hu => by
  have hu : A.units < cLine := by omega
  rw [Has.int_iff] at h; subst h
  obtain ⟨t, rfl⟩ := r
  cases d' with
  | non => rw [Has.non_iff] at h'; subst h'; cases r'; exact EqAt.int_none _ _
  | bl b => rw [Has.bl_iff] at h'; subst h'; cases r'; exact EqAt.int_bool _ _ _
  | int b => rw [Has.int_iff] at h'; subst h'; obtain ⟨t, rfl⟩ := r'; exact EqAt.int_int _ _ _ _
  | str b => rw [Has.str_iff] at h'; subst h'; obtain ⟨t, rfl⟩ := r'; exact EqAt.int_str _ _ _ _
  | tup b => obtain ⟨a, xs, rfl, q, _⟩ := Has.tup_iff.mp h'; cases r'; obtain ⟨its, _, p, _⟩ := I.tuple q; exact EqAt.int_tuple _ _ p hu
  | lst b => obtain ⟨a, xs, rfl, q, _⟩ := Has.lst_iff.mp h'; cases r'; obtain ⟨its, _, p, _⟩ := I.list q; exact EqAt.int_list _ _ p.isList hu
 | .str x, A, d', v, v', u, u', h, h', r, r', hu => by
  have hu : A.units < cLine := by omega
  rw [Has.str_iff] at h; subst h
  obtain ⟨t, rfl⟩ := r
  cases d' with
  | non => rw [Has.non_iff] at h'; subst h'; cases r'; exact EqAt.str_none _ _
  | bl b => rw [Has.bl_iff] at h'; subst h'; cases r'; exact EqAt.str_bool _ _ _
  | int b => rw [Has.int_iff] at h'; subst h'; obtain ⟨t, rfl⟩ := r'; exact EqAt.str_int _ _ _ _
  | str b => rw [Has.str_iff] at h'; subst h'; obtain ⟨t, rfl⟩ := r'; exact EqAt.str_str _ _ _ _
  | tup b => obtain ⟨a, xs, rfl, q, _⟩ := Has.tup_iff.mp h'; cases r'; obtain ⟨its, _, p, _⟩ := I.tuple q; exact EqAt.str_tuple _ _ p hu
  | lst b => obtain ⟨a, xs, rfl, q, _⟩ := Has.lst_iff.mp h'; cases r'; obtain ⟨its, _, p, _⟩ := I.list q; exact EqAt.str_list _ _ p.isList hu
 | .tup x, A, d', v, v', u, u', h, h', r, r', hu => by
  have hu0 : A.units < cLine := by omega
  obtain ⟨a, xs, rfl, q, l⟩ := Has.tup_iff.mp h
  cases r
  obtain ⟨its, rv, p, _⟩ := I.tuple q
  cases d' with
  | non => rw [Has.non_iff] at h'; subst h'; cases r'; exact EqAt.tuple_none p hu0
  | bl b => rw [Has.bl_iff] at h'; subst h'; cases r'; exact EqAt.tuple_bool _ p hu0
  | int b => rw [Has.int_iff] at h'; subst h'; obtain ⟨t, rfl⟩ := r'; exact EqAt.tuple_int _ _ p hu0
  | str b => rw [Has.str_iff] at h'; subst h'; obtain ⟨t, rfl⟩ := r'; exact EqAt.tuple_str _ _ p hu0
  | tup y =>
   obtain ⟨b, ys, rfl, q', l'⟩ := Has.tup_iff.mp h'
   cases r'
   obtain ⟨its', rv', p', _⟩ := I.tuple q'
   by_cases hab : a = b
   ·subst hab
    cases Has.inj I h h'
    rw [vU]
    exact EqAt.same _
   ·refine EqAt.of_refs hab ?_
    have e := RcAt.tuples (A := A) (e := fun j => eqD (x.getD j .non) (y.getD j .non)) p p' hu0 (fun j h1 h2 => vV I x A.in1 y xs ys its its' l l' rv rv' (by show A.units + 1 + _ < cLine; unfold dep at hu; omega) j (by simpa using h1) (by simpa using h2))
    unfold eqD
    rw [qd, <- l.length, <- l'.length, rv.length, rv'.length]
    simpa using e
  | lst y => obtain ⟨b, ys, rfl, q', l'⟩ := Has.lst_iff.mp h'; cases r'; obtain ⟨its', _, p', _⟩ := I.list q'; exact EqAt.tuple_list p p'.isList hu0
 | .lst x, A, d', v, v', u, u', h, h', r, r', hu => by
  have hu0 : A.units < cLine := by omega
  obtain ⟨a, xs, rfl, q, l⟩ := Has.lst_iff.mp h
  cases r
  obtain ⟨its, rv, p, _⟩ := I.list q
  cases d' with
  | non => rw [Has.non_iff] at h'; subst h'; cases r'; exact EqAt.list_none p.isList hu0
  | bl b => rw [Has.bl_iff] at h'; subst h'; cases r'; exact EqAt.list_bool _ p.isList hu0
  | int b => rw [Has.int_iff] at h'; subst h'; obtain ⟨t, rfl⟩ := r'; exact EqAt.list_int _ _ p.isList hu0
  | str b => rw [Has.str_iff] at h'; subst h'; obtain ⟨t, rfl⟩ := r'; exact EqAt.list_str _ _ p.isList hu0
  | lst y =>
   obtain ⟨b, ys, rfl, q', l'⟩ := Has.lst_iff.mp h'
   cases r'
   obtain ⟨its', rv', p', _⟩ := I.list q'
   by_cases hab : a = b
   ·subst hab
    cases Has.inj I h h'
    rw [vU]
    exact EqAt.same _
   ·refine EqAt.of_refs hab ?_
    unfold eqD
    rw [qd, <- l.length, <- l'.length, rv.length, rv'.length]
    by_cases hl : its.length = its'.length
    ·have e := RcAt.lists (A := A) (e := fun j => eqD (x.getD j .non) (y.getD j .non)) p.isList p'.isList (by simpa using hl) hu0 (fun j h1 h2 => vV I x A.in1 y xs ys its its' l l' rv rv' (by show A.units + 1 + _ < cLine; unfold dep at hu; omega) j (by simpa using h1) (by simpa using h2))
     rw [<- hl, Nat.min_self]
     simpa using e
    ·have e := RcAt.lists_lengths (A := A) p.isList p'.isList (by simpa using hl) hu0
     have : (its.length == its'.length) = false := by simpa using hl
     rw [this, Bool.and_false]
     exact e
  | tup y => obtain ⟨b, ys, rfl, q', l'⟩ := Has.tup_iff.mp h'; cases r'; obtain ⟨its', _, p', _⟩ := I.tuple q'; exact EqAt.list_tuple p.isList p' hu0
theorem vV (I : Inv X pins σ H s) : ∀ (ds : List D) (A : Around) (ds' : List D) (xs ys : List V) (us us' : List Value), zP X.K H ds xs -> zP X.K H ds' ys -> yP xs us -> yP ys us' -> A.units + uN ds < cLine →
  ∀ (j : Nat) (h1 : j < us.length) (h2 : j < us'.length), EqAt A s us[j] us'[j] (eqD (ds.getD j .non) (ds'.getD j .non))
 | [], A, ds', xs, ys, us, us', l, l', r, r', hu, j, h1, h2 => by
  rw [zP.nil_iff] at l; subst l
  cases r
  simp at h1
 | d :: ds, A, ds', xs, ys, us, us', l, l', r, r', hu, j, h1, h2 => by
  obtain ⟨x, xr, rfl, hx, hr⟩ := zP.cons_iff.mp l
  cases ds' with
  | nil =>
   rw [zP.nil_iff] at l'; subst l'
   cases r'
   simp at h2
  | cons d' ds' =>
   obtain ⟨y, yr, rfl, hy, hyr⟩ := zP.cons_iff.mp l'
   cases r with
   | cons r rr =>
    cases r' with
    | cons r' rr' =>
     unfold uN at hu
     cases j with
     | zero => exact Ji I d A d' _ _ _ _ hx hy r r' (by have := Nat.le_max_left (dep d) (uN ds); omega)
     | succ j => exact vV I ds A ds' _ _ _ _ hr hyr rr rr' (by have := Nat.le_max_right (dep d) (uN ds); omega) j (by simpa using h1) (by simpa using h2)
end
open SeqAt in
theorem HZ (I : Inv X pins σ H s) (d : D) (A : Around) (d' : D) (v v' : V) (u u' : Value) (h : Has X.K H d v) (h' : Has X.K H d' v') (r : yV v u) (r' : yV v' u') (hu : A.units + dep d < cLine) : RcAt A s u u' (eqD d d') := by
 have hu0 : A.units < cLine := by omega
 cases d with
 | non =>
  rw [Has.non_iff] at h; subst h
  cases r
  cases d' with
  | non => rw [Has.non_iff] at h'; subst h'; cases r'; exact RcAt.none_none
  | bl b => rw [Has.bl_iff] at h'; subst h'; cases r'; exact RcAt.none_bool _
  | int b => rw [Has.int_iff] at h'; subst h'; obtain ⟨t, rfl⟩ := r'; exact RcAt.none_int _ _
  | str b => rw [Has.str_iff] at h'; subst h'; obtain ⟨t, rfl⟩ := r'; exact RcAt.none_str _ _
  | tup b => obtain ⟨a, xs, rfl, q, _⟩ := Has.tup_iff.mp h'; cases r'; obtain ⟨its, _, p, _⟩ := I.tuple q; exact RcAt.none_tuple p hu0
  | lst b => obtain ⟨a, xs, rfl, q, _⟩ := Has.lst_iff.mp h'; cases r'; obtain ⟨its, _, p, _⟩ := I.list q; exact RcAt.none_list p.isList hu0
 | bl x =>
  rw [Has.bl_iff] at h; subst h
  cases r
  cases d' with
  | non => rw [Has.non_iff] at h'; subst h'; cases r'; exact RcAt.bool_none _
  | bl b => rw [Has.bl_iff] at h'; subst h'; cases r'; exact RcAt.bool_bool _ _
  | int b => rw [Has.int_iff] at h'; subst h'; obtain ⟨t, rfl⟩ := r'; exact RcAt.bool_int _ _ _
  | str b => rw [Has.str_iff] at h'; subst h'; obtain ⟨t, rfl⟩ := r'; exact RcAt.bool_str _ _ _
  | tup b => obtain ⟨a, xs, rfl, q, _⟩ := Has.tup_iff.mp h'; cases r'; obtain ⟨its, _, p, _⟩ := I.tuple q; exact RcAt.bool_tuple _ p hu0
  | lst b => obtain ⟨a, xs, rfl, q, _⟩ := Has.lst_iff.mp h'; cases r'; obtain ⟨its, _, p, _⟩ := I.list q; exact RcAt.bool_list _ p.isList hu0
 | int x =>
  rw [Has.int_iff] at h; subst h
  obtain ⟨t, rfl⟩ := r
  cases d' with
  | non => rw [Has.non_iff] at h'; subst h'; cases r'; exact RcAt.int_none _ _
  | bl b => rw [Has.bl_iff] at h'; subst h'; cases r'; exact RcAt.int_bool _ _ _
  | int b => rw [Has.int_iff] at h'; subst h'; obtain ⟨t, rfl⟩ := r'; exact RcAt.int_int _ _ _ _
  | str b => rw [Has.str_iff] at h'; subst h'; obtain ⟨t, rfl⟩ := r'; exact RcAt.int_str _ _ _ _
  | tup b => obtain ⟨a, xs, rfl, q, _⟩ := Has.tup_iff.mp h'; cases r'; obtain ⟨its, _, p, _⟩ := I.tuple q; exact RcAt.int_tuple _ _ p hu0
  | lst b => obtain ⟨a, xs, rfl, q, _⟩ := Has.lst_iff.mp h'; cases r'; obtain ⟨its, _, p, _⟩ := I.list q; exact RcAt.int_list _ _ p.isList hu0
 | str x =>
  rw [Has.str_iff] at h; subst h
  obtain ⟨t, rfl⟩ := r
  cases d' with
  | non => rw [Has.non_iff] at h'; subst h'; cases r'; exact RcAt.str_none _ _
  | bl b => rw [Has.bl_iff] at h'; subst h'; cases r'; exact RcAt.str_bool _ _ _
  | int b => rw [Has.int_iff] at h'; subst h'; obtain ⟨t, rfl⟩ := r'; exact RcAt.str_int _ _ _ _
  | str b => rw [Has.str_iff] at h'; subst h'; obtain ⟨t, rfl⟩ := r'; exact RcAt.str_str _ _ _ _
  | tup b => obtain ⟨a, xs, rfl, q, _⟩ := Has.tup_iff.mp h'; cases r'; obtain ⟨its, _, p, _⟩ := I.tuple q; exact RcAt.str_tuple _ _ p hu0
  | lst b => obtain ⟨a, xs, rfl, q, _⟩ := Has.lst_iff.mp h'; cases r'; obtain ⟨its, _, p, _⟩ := I.list q; exact RcAt.str_list _ _ p.isList hu0
 | tup x =>
  obtain ⟨a, xs, rfl, q, l⟩ := Has.tup_iff.mp h
  cases r
  obtain ⟨its, rv, p, _⟩ := I.tuple q
  cases d' with
  | non => rw [Has.non_iff] at h'; subst h'; cases r'; exact RcAt.tuple_none p hu0
  | bl b => rw [Has.bl_iff] at h'; subst h'; cases r'; exact RcAt.tuple_bool _ p hu0
  | int b => rw [Has.int_iff] at h'; subst h'; obtain ⟨t, rfl⟩ := r'; exact RcAt.tuple_int _ _ p hu0
  | str b => rw [Has.str_iff] at h'; subst h'; obtain ⟨t, rfl⟩ := r'; exact RcAt.tuple_str _ _ p hu0
  | tup y =>
   obtain ⟨b, ys, rfl, q', l'⟩ := Has.tup_iff.mp h'
   cases r'
   obtain ⟨its', rv', p', _⟩ := I.tuple q'
   have e := RcAt.tuples (A := A) (e := fun j => eqD (x.getD j .non) (y.getD j .non)) p p' hu0 (fun j h1 h2 => vV I x A.in1 y xs ys its its' l l' rv rv' (by show A.units + 1 + _ < cLine; unfold dep at hu; omega) j (by simpa using h1) (by simpa using h2))
   unfold eqD
   rw [qd, <- l.length, <- l'.length, rv.length, rv'.length]
   simpa using e
  | lst y => obtain ⟨b, ys, rfl, q', l'⟩ := Has.lst_iff.mp h'; cases r'; obtain ⟨its', _, p', _⟩ := I.list q'; exact RcAt.tuple_list p p'.isList hu0
 | lst x =>
  obtain ⟨a, xs, rfl, q, l⟩ := Has.lst_iff.mp h
  cases r
  obtain ⟨its, rv, p, _⟩ := I.list q
  cases d' with
  | non => rw [Has.non_iff] at h'; subst h'; cases r'; exact RcAt.list_none p.isList hu0
  | bl b => rw [Has.bl_iff] at h'; subst h'; cases r'; exact RcAt.list_bool _ p.isList hu0
  | int b => rw [Has.int_iff] at h'; subst h'; obtain ⟨t, rfl⟩ := r'; exact RcAt.list_int _ _ p.isList hu0
  | str b => rw [Has.str_iff] at h'; subst h'; obtain ⟨t, rfl⟩ := r'; exact RcAt.list_str _ _ p.isList hu0
  | lst y =>
   obtain ⟨b, ys, rfl, q', l'⟩ := Has.lst_iff.mp h'
   cases r'
   obtain ⟨its', rv', p', _⟩ := I.list q'
   unfold eqD
   rw [qd, <- l.length, <- l'.length, rv.length, rv'.length]
   by_cases hl : its.length = its'.length
   ·have e := RcAt.lists (A := A) (e := fun j => eqD (x.getD j .non) (y.getD j .non)) p.isList p'.isList (by simpa using hl) hu0 (fun j h1 h2 => vV I x A.in1 y xs ys its its' l l' rv rv' (by show A.units + 1 + _ < cLine; unfold dep at hu; omega) j (by simpa using h1) (by simpa using h2))
    rw [<- hl, Nat.min_self]
    simpa using e
   ·have e := RcAt.lists_lengths (A := A) p.isList p'.isList (by simpa using hl) hu0
    have : (its.length == its'.length) = false := by simpa using hl
    rw [this, Bool.and_false]
    exact e
  | tup y => obtain ⟨b, ys, rfl, q', l'⟩ := Has.tup_iff.mp h'; cases r'; obtain ⟨its', _, p', _⟩ := I.tuple q'; exact RcAt.list_tuple p.isList p' hu0
open SeqAt in
theorem HY (I : Inv X pins σ H s) (d : D) (A : Around) (d' : D) (v v' : V) (u u' : Value) (h : Has X.K H d v) (h' : Has X.K H d' v') (r : yV v u) (r' : yV v' u') (hu : A.units + dep d < cLine) : RcNeAt A s u u' (!eqD d d') := by
 have hu0 : A.units < cLine := by omega
 cases d with
 | non =>
  rw [Has.non_iff] at h; subst h
  cases r
  cases d' with
  | non => rw [Has.non_iff] at h'; subst h'; cases r'; exact RcNeAt.none_none
  | bl b => rw [Has.bl_iff] at h'; subst h'; cases r'; exact RcNeAt.none_bool _
  | int b => rw [Has.int_iff] at h'; subst h'; obtain ⟨t, rfl⟩ := r'; exact RcNeAt.none_int _ _
  | str b => rw [Has.str_iff] at h'; subst h'; obtain ⟨t, rfl⟩ := r'; exact RcNeAt.none_str _ _
  | tup b => obtain ⟨a, xs, rfl, q, _⟩ := Has.tup_iff.mp h'; cases r'; obtain ⟨its, _, p, _⟩ := I.tuple q; exact RcNeAt.none_tuple p hu0
  | lst b => obtain ⟨a, xs, rfl, q, _⟩ := Has.lst_iff.mp h'; cases r'; obtain ⟨its, _, p, _⟩ := I.list q; exact RcNeAt.none_list p.isList hu0
 | bl x =>
  rw [Has.bl_iff] at h; subst h
  cases r
  cases d' with
  | non => rw [Has.non_iff] at h'; subst h'; cases r'; exact RcNeAt.bool_none _
  | bl b => rw [Has.bl_iff] at h'; subst h'; cases r'; exact RcNeAt.bool_bool _ _
  | int b => rw [Has.int_iff] at h'; subst h'; obtain ⟨t, rfl⟩ := r'; exact RcNeAt.bool_int _ _ _
  | str b => rw [Has.str_iff] at h'; subst h'; obtain ⟨t, rfl⟩ := r'; exact RcNeAt.bool_str _ _ _
  | tup b => obtain ⟨a, xs, rfl, q, _⟩ := Has.tup_iff.mp h'; cases r'; obtain ⟨its, _, p, _⟩ := I.tuple q; exact RcNeAt.bool_tuple _ p hu0
  | lst b => obtain ⟨a, xs, rfl, q, _⟩ := Has.lst_iff.mp h'; cases r'; obtain ⟨its, _, p, _⟩ := I.list q; exact RcNeAt.bool_list _ p.isList hu0
 | int x =>
  rw [Has.int_iff] at h; subst h
  obtain ⟨t, rfl⟩ := r
  cases d' with
  | non => rw [Has.non_iff] at h'; subst h'; cases r'; exact RcNeAt.int_none _ _
  | bl b => rw [Has.bl_iff] at h'; subst h'; cases r'; exact RcNeAt.int_bool _ _ _
  | int b => rw [Has.int_iff] at h'; subst h'; obtain ⟨t, rfl⟩ := r'; exact RcNeAt.int_int _ _ _ _
  | str b => rw [Has.str_iff] at h'; subst h'; obtain ⟨t, rfl⟩ := r'; exact RcNeAt.int_str _ _ _ _
  | tup b => obtain ⟨a, xs, rfl, q, _⟩ := Has.tup_iff.mp h'; cases r'; obtain ⟨its, _, p, _⟩ := I.tuple q; exact RcNeAt.int_tuple _ _ p hu0
  | lst b => obtain ⟨a, xs, rfl, q, _⟩ := Has.lst_iff.mp h'; cases r'; obtain ⟨its, _, p, _⟩ := I.list q; exact RcNeAt.int_list _ _ p.isList hu0
 | str x =>
  rw [Has.str_iff] at h; subst h
  obtain ⟨t, rfl⟩ := r
  cases d' with
  | non => rw [Has.non_iff] at h'; subst h'; cases r'; exact RcNeAt.str_none _ _
  | bl b => rw [Has.bl_iff] at h'; subst h'; cases r'; exact RcNeAt.str_bool _ _ _
  | int b => rw [Has.int_iff] at h'; subst h'; obtain ⟨t, rfl⟩ := r'; exact RcNeAt.str_int _ _ _ _
  | str b => rw [Has.str_iff] at h'; subst h'; obtain ⟨t, rfl⟩ := r'; exact RcNeAt.str_str _ _ _ _
  | tup b => obtain ⟨a, xs, rfl, q, _⟩ := Has.tup_iff.mp h'; cases r'; obtain ⟨its, _, p, _⟩ := I.tuple q; exact RcNeAt.str_tuple _ _ p hu0
  | lst b => obtain ⟨a, xs, rfl, q, _⟩ := Has.lst_iff.mp h'; cases r'; obtain ⟨its, _, p, _⟩ := I.list q; exact RcNeAt.str_list _ _ p.isList hu0
 | tup x =>
  obtain ⟨a, xs, rfl, q, l⟩ := Has.tup_iff.mp h
  cases r
  obtain ⟨its, rv, p, _⟩ := I.tuple q
  cases d' with
  | non => rw [Has.non_iff] at h'; subst h'; cases r'; exact RcNeAt.tuple_none p hu0
  | bl b => rw [Has.bl_iff] at h'; subst h'; cases r'; exact RcNeAt.tuple_bool _ p hu0
  | int b => rw [Has.int_iff] at h'; subst h'; obtain ⟨t, rfl⟩ := r'; exact RcNeAt.tuple_int _ _ p hu0
  | str b => rw [Has.str_iff] at h'; subst h'; obtain ⟨t, rfl⟩ := r'; exact RcNeAt.tuple_str _ _ p hu0
  | tup y =>
   obtain ⟨b, ys, rfl, q', l'⟩ := Has.tup_iff.mp h'
   cases r'
   obtain ⟨its', rv', p', _⟩ := I.tuple q'
   have e := RcNeAt.tuples (A := A) (e := fun j => eqD (x.getD j .non) (y.getD j .non)) p p' hu0 (fun j h1 h2 => vV I x A.in1 y xs ys its its' l l' rv rv' (by show A.units + 1 + _ < cLine; unfold dep at hu; omega) j (by simpa using h1) (by simpa using h2))
   unfold eqD
   rw [qd, <- l.length, <- l'.length, rv.length, rv'.length]
   simpa using e
  | lst y => obtain ⟨b, ys, rfl, q', l'⟩ := Has.lst_iff.mp h'; cases r'; obtain ⟨its', _, p', _⟩ := I.list q'; exact RcNeAt.tuple_list p p'.isList hu0
 | lst x =>
  obtain ⟨a, xs, rfl, q, l⟩ := Has.lst_iff.mp h
  cases r
  obtain ⟨its, rv, p, _⟩ := I.list q
  cases d' with
  | non => rw [Has.non_iff] at h'; subst h'; cases r'; exact RcNeAt.list_none p.isList hu0
  | bl b => rw [Has.bl_iff] at h'; subst h'; cases r'; exact RcNeAt.list_bool _ p.isList hu0
  | int b => rw [Has.int_iff] at h'; subst h'; obtain ⟨t, rfl⟩ := r'; exact RcNeAt.list_int _ _ p.isList hu0
  | str b => rw [Has.str_iff] at h'; subst h'; obtain ⟨t, rfl⟩ := r'; exact RcNeAt.list_str _ _ p.isList hu0
  | lst y =>
   obtain ⟨b, ys, rfl, q', l'⟩ := Has.lst_iff.mp h'
   cases r'
   obtain ⟨its', rv', p', _⟩ := I.list q'
   unfold eqD
   rw [qd, <- l.length, <- l'.length, rv.length, rv'.length]
   by_cases hl : its.length = its'.length
   ·have e := RcNeAt.lists (A := A) (e := fun j => eqD (x.getD j .non) (y.getD j .non)) p.isList p'.isList (by simpa using hl) hu0 (fun j h1 h2 => vV I x A.in1 y xs ys its its' l l' rv rv' (by show A.units + 1 + _ < cLine; unfold dep at hu; omega) j (by simpa using h1) (by simpa using h2))
    rw [<- hl, Nat.min_self]
    simpa using e
   ·have e := RcNeAt.lists_lengths (A := A) p.isList p'.isList (by simpa using hl) hu0
    have : (its.length == its'.length) = false := by simpa using hl
    rw [this, Bool.and_false]
    exact e
  | tup y => obtain ⟨b, ys, rfl, q', l'⟩ := Has.tup_iff.mp h'; cases r'; obtain ⟨its', _, p', _⟩ := I.tuple q'; exact RcNeAt.list_tuple p.isList p' hu0
end
theorem qR.full {K : W.Frag} {H₀ Hf₀ H Hf : Hp} {σ : St} {ρ : Rho} {d : D} {v : V} (h : qR K Hf σ ρ d v) (R : Rep K H₀ Hf₀ σ ρ H Hf) : Has K H d v := by
 rcases h with h | ⟨i, ds, rfl, e1, e2⟩
 ·exact h.mono R.sf
 ·obtain ⟨a, p1, ⟨xs, p2, p3⟩, _⟩ := R.ow i _ e1 rfl
  rw [e2] at p1; cases p1
  exact Has.lst_iff.mpr ⟨a, xs, rfl, SqL.of p2, p3.mono R.sf⟩
section
variable {X : Cx} {e a b c : Expr} {es : List Expr} {f g h : FE} {fa ga : FA} {ft gt : FT} {pos : Pos} {t t' : TE} {kk : Nat}
def NZ (K : W.Frag) : R2 := fun x y H Q => ∃ d d', Has K H d x /\ Has K H d' y /\ dep d <= 100 /\ Q (.bl (eqD d d')) H
def NV (K : W.Frag) : R2 := fun x y H Q => ∃ d d', Has K H d x /\ Has K H d' y /\ dep d <= 100 /\ Q (.bl (!eqD d d')) H
theorem Hg (hr : Room kk X.A) : OpR X (compareOp .Eq) (NZ X.K) := by
 intro pins s σ H x y v u Q I rx ry h
 obtain ⟨d, d', h1, h2, h3, q⟩ := h
 exact HZ I d X.A d' x y v u h1 h2 rx ry (by have := hr.un; omega) X.prog X.w X.xe _ ⟨.bl _, H, I, rfl, q⟩
theorem D9 (hr : Room kk X.A) : OpR X (compareOp .NotEq) (NV X.K) := by
 intro pins s σ H x y v u Q I rx ry h
 obtain ⟨d, d', h1, h2, h3, q⟩ := h
 exact HY I d X.A d' x y v u h1 h2 rx ry (by have := hr.un; omega) X.prog X.w X.xe _ ⟨.bl _, H, I, rfl, q⟩
def eqF : D -> D -> Option D := fun x y => if dep x <= 100 then some (.bl (eqD x y)) else none
def neF : D -> D -> Option D := fun x y => if dep x <= 100 then some (.bl (!eqD x y)) else none
theorem Hh : OpD X (NZ X.K) eqF := by
 intro σ ρ H₀ Hf₀ H Hf x y dx dy d Q R hx hy hφ k
 unfold eqF at hφ
 split at hφ
 ·cases hφ
  exact ⟨dx, dy, hx.full R, hy.full R, by assumption, k _ _ _ R zx zx (Has.bl_iff.mpr rfl)⟩
 ·cases hφ
theorem Fd : OpD X (NV X.K) neF := by
 intro σ ρ H₀ Hf₀ H Hf x y dx dy d Q R hx hy hφ k
 unfold neF at hφ
 split at hφ
 ·cases hφ
  exact ⟨dx, dy, hx.full R, hy.full R, by assumption, k _ _ _ R zx zx (Has.bl_iff.mpr rfl)⟩
 ·cases hφ
theorem NC (hr : Room kk X.A) (ha : DR X a f) (hb : DR X b g) : DE X (.Compare a [.Eq] [b] pos) (zc eqF f g) := CF (Hg hr) Hh ha hb (jE _)
theorem ud (hr : Room kk X.A) (ha : DR X a f) (hb : DR X b g) : DT X (.Compare a [.Eq] [b] pos) (blF (zc eqF f g)) := xH (Hg hr) Hh ha hb (jE _)
theorem Ys (hr : Room kk X.A) (ha : DR X a f) (hb : DR X b g) : DT X (.Compare a [.NotEq] [b] pos) (blF (zc neF f g)) := xH (D9 hr) Fd ha hb (jE _)
def FnR (X : Cx) (r : List V -> Hp -> VK -> Prop) (φ : List D -> Option D) : Prop :=
 ∀ (σ : St) (ρ : Rho) (H₀ Hf₀ H Hf : Hp) (xs : List V) (ds : List D) (d : D) (Q : VK), Rep X.K H₀ Hf₀ σ ρ H Hf -> kZ X.K Hf σ ρ ds xs -> φ ds = some d →
  (∀ v H' Hf', Rep X.K H₀ Hf₀ σ ρ H' Hf' -> yi H H' -> yi Hf Hf' -> Has X.K Hf' d v -> Q v H') -> r xs H Q
def zN (φ : List D -> Option D) (fa : FA) : FE := fun ρ => (fa ρ).bind φ
theorem yp {α : Type} {f : FA} {k : List D -> Option α} {ρ : Rho} {r : α} (h : (f ρ).bind k = some r) : ∃ b, f ρ = some b /\ k b = some r := by
 cases hf : f ρ with
 | none => rw [hf] at h; cases h
 | some x => rw [hf] at h; exact ⟨x, rfl, h⟩
theorem GY {r : List V -> Hp -> VK -> Prop} {φ : List D -> Option D} (hφ : FnR X r φ) (σ : St) (H : Hp) (Q : VK) (hh : tF X.K (zN φ fa) σ H Q) : tCB r (tAR X.K fa) σ H Q := by
 obtain ⟨H₀, Hf₀, ρ, Hf, d, R, q, k⟩ := hh
 obtain ⟨ds, e1, e2⟩ := yp q
 exact ⟨H₀, Hf₀, ρ, Hf, ds, R, e1, fun vs H1 Hf1 R1 s1 t1 h1 => hφ σ ρ H₀ Hf₀ H1 Hf1 vs ds d Q R1 h1 e2 fun v H2 Hf2 R2 s2 t2 h2 => k _ _ _ R2 (s1.trans s2) (t1.trans t2) h2⟩
theorem xa {id : String} {x : Str} {p : Pos} {r : List V -> Hp -> VK -> Prop} {φ : List D -> Option D} (hc : w6 X (.builtin id) r) (hφ : FnR X r φ) (hg : Gl X x) (hm : X.mg x = none) (hv : bootBuiltins x = some (.builtin id)) (ha : DAR X (e :: es) fa)
  (hn : x ≠ "__name__" := by decide) (hdb : (x == ("__debug__" : Str)) = false := by decide)
  (he : starEach (e :: es) X.env = (false, eval e X.env) :: starEach es X.env := by rfl) (hpl : (backTo pos (starEach es X.env)).any (·.1) = false := by rfl) : DE X (.Call (.Name x p) (e :: es) [] pos) (zN φ fa) :=
 yy (Yf hc hg hm hv ha hn hdb he hpl) (GY hφ)
theorem jY {T : String} {x : Str} {p : Pos} {r : List V -> Hp -> VK -> Prop} {φ : List D -> Option D} (hc : w6 X (.type T) r) (hφ : FnR X r φ) (hg : Gl X x) (hm : X.mg x = none) (hv : bootBuiltins x = some (.type T)) (ha : DAR X (e :: es) fa)
  (hn : x ≠ "__name__" := by decide) (hdb : (x == ("__debug__" : Str)) = false := by decide)
  (he : starEach (e :: es) X.env = (false, eval e X.env) :: starEach es X.env := by rfl) (hpl : (backTo pos (starEach es X.env)).any (·.1) = false := by rfl) : DE X (.Call (.Name x p) (e :: es) [] pos) (zN φ fa) :=
 yy (vA hc hg hm hv ha hn hdb he hpl) (GY hφ)
theorem kZ.one {K : W.Frag} {Hf : Hp} {σ : St} {ρ : Rho} {d : D} {xs : List V} (h : kZ K Hf σ ρ [d] xs) : ∃ v, xs = [v] /\ qR K Hf σ ρ d v := by
 cases h with
 | cons h1 h2 => cases h2; exact ⟨_, rfl, h1⟩
theorem kZ.two {K : W.Frag} {Hf : Hp} {σ : St} {ρ : Rho} {d d' : D} {xs : List V} (h : kZ K Hf σ ρ [d, d'] xs) : ∃ v v', xs = [v, v'] /\ qR K Hf σ ρ d v /\ qR K Hf σ ρ d' v' := by
 cases h with
 | cons h1 h2 =>
  cases h2 with
  | cons h2 h3 => cases h3; exact ⟨_, _, rfl, h1, h2⟩
def Y9 : List D -> Option D
 | [.lst ds] => some (.int ds.length)
 | [.tup ds] => some (.int ds.length)
 | [.str x] => if x.length <= sizeLine then some (.int x.length) else none
 | _ => none
theorem wX : w6 X (.builtin "len") (fun xs H Q => (∃ p ys, xs = [.ref p] /\ (SqL X.K H p ys \/ SqT X.K H p ys) /\ Q (.int ys.length) H) \/ (∃ z, xs = [.str z] /\ z.length <= sizeLine /\ Q (.int z.length) H)) := w6.or Xy Xx
theorem u6 : FnR X (fun xs H Q => (∃ p ys, xs = [.ref p] /\ (SqL X.K H p ys \/ SqT X.K H p ys) /\ Q (.int ys.length) H) \/ (∃ z, xs = [.str z] /\ z.length <= sizeLine /\ Q (.int z.length) H)) Y9 := by
 intro σ ρ H₀ Hf₀ H Hf xs ds d Q R hx hφ k
 unfold Y9 at hφ
 split at hφ
 ·cases hφ
  obtain ⟨v, rfl, hv⟩ := hx.one
  obtain ⟨a, ys, rfl, q, l⟩ := hv.lst R
  exact .inl ⟨a, ys, rfl, .inl q, k _ _ _ R zx zx (by rw [<- l.length]; exact Has.int_iff.mpr rfl)⟩
 ·cases hφ
  obtain ⟨v, rfl, hv⟩ := hx.one
  obtain ⟨a, ys, rfl, q, l⟩ := hv.tup R
  exact .inl ⟨a, ys, rfl, .inr q, k _ _ _ R zx zx (by rw [<- l.length]; exact Has.int_iff.mpr rfl)⟩
 ·split at hφ
  ·cases hφ
   obtain ⟨v, rfl, hv⟩ := hx.one
   exact .inr ⟨_, by rw [hv.str], by assumption, k _ _ _ R zx zx (Has.int_iff.mpr rfl)⟩
  ·cases hφ
 ·cases hφ
def PN : List D -> Option D
 | [.int i] => some (.int (if i < 0 then -i else i))
 | _ => none
def QL : List D -> Option D
 | [.int i, .int j] => some (.int (if j > i then j else i))
 | _ => none
def K9 : List D -> Option D
 | [.int i, .int j] => some (.int (if j < i then j else i))
 | _ => none
theorem Yq : FnR X (fun xs H Q => ∃ i j, xs = [.int i, .int j] /\ Q (.int (if j > i then j else i)) H) QL := by
 intro σ ρ H₀ Hf₀ H Hf xs ds d Q R hx hφ k
 unfold QL at hφ
 split at hφ
 ·cases hφ
  obtain ⟨v, v', rfl, hv, hv'⟩ := hx.two
  exact ⟨_, _, by rw [hv.int, hv'.int], k _ _ _ R zx zx (Has.int_iff.mpr rfl)⟩
 ·cases hφ
theorem Wo : FnR X (fun xs H Q => ∃ i j, xs = [.int i, .int j] /\ Q (.int (if j < i then j else i)) H) K9 := by
 intro σ ρ H₀ Hf₀ H Hf xs ds d Q R hx hφ k
 unfold K9 at hφ
 split at hφ
 ·cases hφ
  obtain ⟨v, v', rfl, hv, hv'⟩ := hx.two
  exact ⟨_, _, by rw [hv.int, hv'.int], k _ _ _ R zx zx (Has.int_iff.mpr rfl)⟩
 ·cases hφ
def yb (F G : FS) : FS := fun ρ => (F ρ).bind fun o => match o with
 | .nx ρ' => G ρ'
 | o => some o
def nxF : FS := fun ρ => some (.nx ρ)
variable {st : Stmt} {sts jU : List Stmt} {F G : FS}
theorem vM {α : Type} {F : FS} {k : Out -> Option α} {ρ : Rho} {r : α} (h : (F ρ).bind k = some r) : ∃ b, F ρ = some b /\ k b = some r := by
 cases hf : F ρ with
 | none => rw [hf] at h; cases h
 | some x => rw [hf] at h; exact ⟨x, rfl, h⟩
theorem yo : DSs X [] nxF := Yc Bd fun D' σ H ⟨H₀, Hf₀, ρ, Hf, o, R, q, k⟩ => by cases q; exact k _ _ _ R zx
theorem ze (h1 : DS X st F) (h2 : DSs X jU G) : DSs X (st :: jU) (yb F G) := Yc (W7 h1 h2) fun D' σ H ⟨H₀, Hf₀, ρ, Hf, o, R, q, k⟩ => by
 obtain ⟨o1, e1, e2⟩ := vM q
 refine ⟨H₀, Hf₀, ρ, Hf, o1, R, e1, ?_⟩
 cases o1 with
 | nx ρ' =>
  intro σ' H' Hf' R' s'
  refine ⟨H₀, Hf₀, ρ', Hf', o, R', e2, ?_⟩
  cases o with
  | nx _ => exact fun σ2 H2 Hf2 R2 s2 => k _ _ _ R2 (s'.trans s2)
  | bk _ => exact fun σ2 H2 Hf2 R2 s2 => k _ _ _ R2 (s'.trans s2)
  | ct _ => exact fun σ2 H2 Hf2 R2 s2 => k _ _ _ R2 (s'.trans s2)
  | rt _ => exact fun v σ2 ρ2 H2 Hf2 R2 s2 h2 => k _ _ _ _ _ R2 (s'.trans s2) h2
 | bk _ => cases e2; exact k
 | ct _ => cases e2; exact k
 | rt _ => cases e2; exact k
theorem zj (h1 : DS X st F) : DSs X [st] F := X5 h1
def yY (f : FE) : FS := fun ρ => (f ρ).bind fun d => some (.rt d)
theorem zJ (he : DE X e f) : DS X (.Return (some e) pos) (yY f) := xN (DH he) fun D' σ H ⟨H₀, Hf₀, ρ, Hf, o, R, q, k⟩ => by
 obtain ⟨d, e1, e2⟩ := zL q
 cases e2
 exact ⟨H₀, Hf₀, ρ, Hf, d, R, e1, fun v H1 Hf1 R1 s1 t1 h1 => k v σ ρ H1 Hf1 R1 t1 h1⟩
def ifS (c : FT) (F G : FS) : FS := fun ρ => (c ρ).bind fun b => if b = true then F ρ else G ρ
theorem MB.mono {K : W.Frag} {H₀ Hf₀ Hf Hf1 : Hp} {D' : Ends} {o : Out} (k : MB K H₀ Hf₀ Hf D' o) (t : yi Hf Hf1) : MB K H₀ Hf₀ Hf1 D' o := by
 cases o with
 | nx _ => exact fun σ2 H2 Hf2 R2 s2 => k _ _ _ R2 (t.trans s2)
 | bk _ => exact fun σ2 H2 Hf2 R2 s2 => k _ _ _ R2 (t.trans s2)
 | ct _ => exact fun σ2 H2 Hf2 R2 s2 => k _ _ _ R2 (t.trans s2)
 | rt _ => exact fun v σ2 ρ2 H2 Hf2 R2 s2 h2 => k _ _ _ _ _ R2 (t.trans s2) h2
theorem wq {a b : List Stmt} (hc : DT X c ft) (ha : DSs X a F) (hb : DSs X b G) : DS X (.If c a b pos) (ifS ft F G) := xN (DK hc ha hb) fun D' σ H ⟨H₀, Hf₀, ρ, Hf, o, R, q, k⟩ => by
 obtain ⟨x, e1, e2⟩ := xU q
 refine ⟨H₀, Hf₀, ρ, Hf, x, R, e1, fun H1 Hf1 R1 s1 t1 => ?_⟩
 cases x with
 | true => exact Ca ⟨H₀, Hf₀, ρ, Hf1, o, R1, e2, k.mono t1⟩
 | false => exact Cb ⟨H₀, Hf₀, ρ, Hf1, o, R1, e2, k.mono t1⟩
def xh (i : Nat) (f : FE) : FS := fun ρ => (f ρ).bind fun d => some (.nx (ρ.set i (.fr d)))
theorem yh {x : Str} {pos' : Pos} (i : Nat) (hN : X.N.Nodup) (he : DE X e f) (hi : X.N[i]? = some x := by rfl) (hx : Loc X.env.scope x := by first | exact Or.inl rfl | exact Or.inr rfl) (hs : swapsWith e (some (.Name x pos')) pos.line X.env = pure false := by rfl)
  (hf : X.fn x = true \/ X.env.scope.names.lookup x = some .local := by first | exact .inl rfl | exact .inr rfl | assumption) : DS X (.Assign [.Name x pos'] e pos) (xh i f) :=
 xN (W8 hN hi hx he hs hf) fun D' σ H ⟨H₀, Hf₀, ρ, Hf, o, R, q, k⟩ => by
  obtain ⟨d, e1, e2⟩ := zL q
  cases e2
  exact ⟨H₀, Hf₀, ρ, Hf, d, R, e1, fun v H1 Hf1 R1 s1 t1 h1 => k _ _ _ (R1.set i h1) t1⟩
def VL (i : Nat) (f : FA) : FS := fun ρ => (f ρ).bind fun ds => some (.nx (ρ.set i (.ol ds)))
theorem jm {x : Str} {pos' : Pos} (i : Nat) (hN : X.N.Nodup) (he : DN X e fa) (hi : X.N[i]? = some x := by rfl) (hx : Loc X.env.scope x := by first | exact Or.inl rfl | exact Or.inr rfl) (hs : swapsWith e (some (.Name x pos')) pos.line X.env = pure false := by rfl)
  (hf : X.fn x = true \/ X.env.scope.names.lookup x = some .local := by first | exact .inl rfl | exact .inr rfl | assumption) : DS X (.Assign [.Name x pos'] e pos) (VL i fa) :=
 xN (W8 hN hi hx he hs hf) fun D' σ H ⟨H₀, Hf₀, ρ, Hf, o, R, q, k⟩ => by
  obtain ⟨d, e1, e2⟩ := yp q
  cases e2
  refine ⟨H₀, Hf₀, ρ, Hf, d, R, e1, fun a xs H1 Hf1 R1 s1 t1 h1 ha hn hh => k _ _ _ (R1.setOwn i rfl ⟨xs, ha, h1⟩ hn (R.s0.free hh) ?_) t1⟩
  intro j sl z o z'
  obtain ⟨b, p1, p2, _⟩ := R.ow j sl z o
  rw [p1] at z'; cases z'
  obtain ⟨ob, q'⟩ := p2.there o
  rw [q'] at hh; cases hh
def frz (i : Nat) (ρ : Rho) : Option Rho := match ρ[i]? with
 | some (.ol ds) => some (ρ.set i (.fr (.lst ds)))
 | some (.fr _) => some ρ
 | _ => none
def Wm (i : Nat) (F : FS) : FS := fun ρ => (frz i ρ).bind F
theorem qe (i : Nat) (h : DSs X sts F) : DSs X sts (Wm i F) := Yc h fun D' σ H ⟨H₀, Hf₀, ρ, Hf, o, R, q, k⟩ => by
 unfold Wm frz at q
 split at q
 ·rename_i ds e
  obtain ⟨Hf', sm, R'⟩ := R.freeze e
  exact ⟨H₀, Hf₀, _, Hf', o, R', q, k.mono sm⟩
 ·exact ⟨H₀, Hf₀, _, Hf, o, R, q, k⟩
 ·cases q
abbrev FG := D -> Rho -> Option Rho
def tG (K : W.Frag) (γ : FG) : TG := fun v σ H Q => ∃ H₀ Hf₀ ρ Hf d ρ', Rep K H₀ Hf₀ σ ρ H Hf /\ Has K Hf d v /\ γ d ρ = some ρ' /\ ∀ σ' H' Hf', Rep K H₀ Hf₀ σ' ρ' H' Hf' -> yi Hf Hf' -> Q σ' H'
abbrev FGs := List D -> Rho -> Option Rho
def tGs (K : W.Frag) (γ : FGs) : TGs := fun vs σ H Q => ∃ H₀ Hf₀ ρ Hf ds ρ', Rep K H₀ Hf₀ σ ρ H Hf /\ zP K Hf ds vs /\ γ ds ρ = some ρ' /\ ∀ σ' H' Hf', Rep K H₀ Hf₀ σ' ρ' H' Hf' -> yi Hf Hf' -> Q σ' H'
def DG (X : Cx) (tg : Expr) (γ : FG) : Prop := PG X tg (tG X.K γ)
def DGs (X : Cx) (ts : List Expr) (γ : FGs) : Prop := PGs X ts (tGs X.K γ)
theorem Hd {tg : Expr} {t t' : TG} (h : PG X tg t) (i : ∀ v σ H Q, t' v σ H Q -> t v σ H Q) : PG X tg t' := fun pins s σ H v u Q I r hw => h pins s σ H v u Q I r (i _ _ _ _ hw)
theorem Qo {ts : List Expr} {t t' : TGs} (h : PGs X ts t) (i : ∀ v σ H Q, t' v σ H Q -> t v σ H Q) : PGs X ts t' := fun pins s σ H v u Q I r hw => h pins s σ H v u Q I r (i _ _ _ _ hw)
def zu (i : Nat) : FG := fun d ρ => some (ρ.set i (.fr d))
theorem zD {x : Str} (i : Nat) (hN : X.N.Nodup) (hi : X.N[i]? = some x := by rfl) (hx : Loc X.env.scope x := by first | exact Or.inl rfl | exact Or.inr rfl) (hf : X.fn x = true \/ X.env.scope.names.lookup x = some .local := by first | exact .inl rfl | exact .inr rfl | assumption) : DG X (.Name x pos) (zu i) :=
 Hd (Bj hN hi hx hf) fun v σ H Q ⟨H₀, Hf₀, ρ, Hf, d, ρ', R, h, q, k⟩ => by
  cases q
  exact k _ _ _ (R.set i h) zx
def jF : FGs := fun ds ρ => match ds with
 | [] => some ρ
 | _ => none
def yg (γ : FG) (δ : FGs) : FGs := fun ds ρ => match ds with
 | d :: r => (γ d ρ).bind fun ρ' => δ r ρ'
 | _ => none
theorem wW : DGs X [] jF := Qo Bi fun v σ H Q ⟨H₀, Hf₀, ρ, Hf, ds, ρ', R, h, q, k⟩ => by
 cases ds with
 | nil => cases q; exact ⟨zP.nil_iff.mp h, k _ _ _ R zx⟩
 | cons _ _ => cases q
theorem z5 {γ : FG} {δ : FGs} (h1 : DG X e γ) (h2 : DGs X es δ) (hs : (assignEach (e :: es) X.env).map (·.2) = assign e X.env :: (assignEach es X.env).map (·.2) := by rfl) : DGs X (e :: es) (yg γ δ) :=
 Qo (KG h1 h2 hs) fun v σ H Q ⟨H₀, Hf₀, ρ, Hf, ds, ρ', R, h, q, k⟩ => by
  cases ds with
  | nil => cases q
  | cons d r =>
   obtain ⟨x, xr, rfl, hx, hr⟩ := zP.cons_iff.mp h
   have q : (γ d ρ).bind (fun ρ' => δ r ρ') = some ρ' := q
   cases e1 : γ d ρ with
   | none => rw [e1] at q; cases q
   | some ρ1 =>
    rw [e1] at q
    exact ⟨x, xr, rfl, H₀, Hf₀, ρ, Hf, d, ρ1, R, hx, e1, fun σ1 H1 Hf1 R1 s1 => ⟨H₀, Hf₀, ρ1, Hf1, r, ρ', R1, hr.mono s1, q, fun σ2 H2 Hf2 R2 s2 => k _ _ _ R2 (s1.trans s2)⟩⟩
def qQ (n : Nat) (δ : FGs) : FG := fun d ρ => match d with
 | .tup ds => if ds.length = n then δ ds ρ else none
 | _ => none
theorem uu {kx n : Nat} {δ : FGs} (hc : X.calm = true) (h : DGs X es δ) (hn : (assignEach es X.env).length = n := by rfl) (hst : (assignEach es X.env).findIdx? (·.1) = none := by rfl) : DG X (.Tuple es kx pos) (qQ n δ) :=
 Hd (DO hc h hn hst) fun v σ H Q ⟨H₀, Hf₀, ρ, Hf, d, ρ', R, h, q, k⟩ => by
  unfold qQ at q
  split at q
  ·split at q
   ·rename_i ds hl
    obtain ⟨a, xs, rfl, qa, la⟩ := Has.tup_iff.mp h
    exact ⟨a, xs, rfl, uZ R.sf qa, by rw [la.length]; exact hl, H₀, Hf₀, ρ, Hf, ds, ρ', R, la, q, k⟩
   ·cases q
  ·cases q
def MG (γ : FG) (f : FE) : FS := fun ρ => (f ρ).bind fun d => (γ d ρ).bind fun ρ' => some (.nx ρ')
theorem Ct {tg : Expr} {γ : FG} (hg : DG X tg γ) (he : DE X e f) (hs : swapsWithSole [tg] e pos.line X.env = pure false := by rfl) (hw : swappedStores [tg] e X.env = pure none := by rfl)
  (h1 : (assignEach [tg] X.env).map (·.2) = [assign tg X.env] := by rfl) : DS X (.Assign [tg] e pos) (MG γ f) :=
 xN (Ha he hg hs hw h1) fun D' σ H ⟨H₀, Hf₀, ρ, Hf, o, R, q, k⟩ => by
  obtain ⟨d, e1, e2⟩ := zL q
  cases e3 : γ d ρ with
  | none => rw [e3] at e2; cases e2
  | some ρ1 =>
   rw [e3] at e2
   cases e2
   exact ⟨H₀, Hf₀, ρ, Hf, d, R, e1, fun v H1 Hf1 R1 s1 t1 h1 => ⟨H₀, Hf₀, ρ, Hf1, d, ρ1, R1, h1, e3, fun σ2 H2 Hf2 R2 s2 => k _ _ _ R2 (t1.trans s2)⟩⟩
end
def yC (γ : FG) (B : FS) : List D -> Rho -> Option Out
 | [], ρ => some (.nx ρ)
 | d :: ds, ρ => (γ d ρ).bind fun ρ1 => (B ρ1).bind fun o => match o with
  | .nx ρ2 => yC γ B ds ρ2
  | .ct ρ2 => yC γ B ds ρ2
  | .bk ρ2 => some (.nx ρ2)
  | .rt d => some (.rt d)
def Wn (fi : FA) (γ : FG) (B : FS) : FS := fun ρ => (fi ρ).bind fun ds => yC γ B ds ρ
structure Grows (H Hf H' Hf' : Hp) : Prop where
 h : yi H H'
 f : yi Hf Hf'
 fh : yi Hf' H'
 new : ∀ b o, Hf' b = some o -> Hf b = some o \/ H b = none \/ Tp o
theorem Rep.grows {K : W.Frag} {H₀ Hf₀ : Hp} {σ : St} {ρ : Rho} {H Hf H' Hf' : Hp} (R : Rep K H₀ Hf₀ σ ρ H Hf) (g : Grows H Hf H' Hf') : Rep K H₀ Hf₀ σ ρ H' Hf' := R.grow g.h g.f g.fh g.new
theorem Grows.refl {H Hf : Hp} (h : yi Hf H) : Grows H Hf H Hf := ⟨zx, zx, h, fun _ _ e => .inl e⟩
def Walks (K : W.Frag) (Hf : Hp) (J : It) (ds : List D) : Prop :=
 ∀ (H' Hf' : Hp), yi Hf Hf' -> yi Hf' H' -> ∀ i : Nat, (∀ d, ds[i]? = some d -> J.go i H' /\ ∀ x H2, J.yld i H' x H2 -> ∃ Hf2, Grows H' Hf' H2 Hf2 /\ Has K Hf2 d x) /\ (ds.length <= i -> J.stop i H')
def tI (K : W.Frag) (fi : FA) : TI := fun σ H R' => ∃ H₀ Hf₀ ρ Hf ds, Rep K H₀ Hf₀ σ ρ H Hf /\ fi ρ = some ds /\ ∀ J H' Hf', Rep K H₀ Hf₀ σ ρ H' Hf' -> yi H H' -> yi Hf Hf' -> Walks K Hf' J ds -> R' J H'
def DI (X : Cx) (tg iter : Expr) (fi : FA) : Prop := PI X tg iter (tI X.K fi)
section
variable {X : Cx} {e a b c tg iter : Expr} {es : List Expr} {f g h : FE} {fa ga fi : FA} {ft gt : FT} {pos : Pos} {t t' : TE} {kk : Nat} {st : Stmt} {sts jU body : List Stmt} {F G B : FS} {γ : FG}
theorem DM {t t' : TI} (h : PI X tg iter t) (i : ∀ σ H R, t' σ H R -> t σ H R) : PI X tg iter t' := fun pins s σ H R I hw => h pins s σ H R I (i _ _ _ hw)
theorem uX (hp : PassesOwn (model X.prog X.w) X.A X.env X.xe) (hc : X.calm = true) (hi : DI X tg iter fi) (hg : DG X tg γ) (hb : DSs X body B)
  (hs : ∀ x, foldedSetIterable iter X.env x = pure x := by intro _; rfl) : DS X (.For tg iter body [] pos) (Wn fi γ B) :=
 xN (G9 hp hc hi hg hb hs) fun D' σ H ⟨H₀, Hf₀, ρ, Hf, o, R, q, k⟩ => by
  obtain ⟨ds, e1, e2⟩ := yp q
  refine ⟨H₀, Hf₀, ρ, Hf, ds, R, e1, fun J H1 Hf1 R1 _ t1 wk => ?_⟩
  have k1 := k.mono t1
  refine ⟨fun i m σ H => m = ds.length - i /\ i <= ds.length /\ ∃ ρ Hf', Rep X.K H₀ Hf₀ σ ρ H Hf' /\ yi Hf1 Hf' /\ yC γ B (ds.drop i) ρ = some o, ⟨ds.length, by simp, g2e _, ρ, Hf1, R1, zx, by simpa using e2⟩, ?_⟩
  rintro i m σ2 H2 ⟨rfl, hi, ρ2, Hf2, R2, t2, el⟩
  obtain ⟨w1, w2⟩ := wk H2 Hf2 t2 R2.sf i
  by_cases hil : i < ds.length
  ·right
   have hd : ds[i]? = some ds[i] := g1i hil
   obtain ⟨go, yld⟩ := w1 _ hd
   refine ⟨go, ?_⟩
   rw [g2l hil] at el
   unfold yC at el
   cases eg : γ ds[i] ρ2 with
   | none => rw [eg] at el; cases el
   | some ρ3 =>
    rw [eg] at el
    simp only [g0a] at el
    obtain ⟨o1, eb, eo⟩ := vM el
    refine ⟨fun σ' H' => ∃ ρ' Hf', Rep X.K H₀ Hf₀ σ' ρ' H' Hf' /\ yi Hf1 Hf' /\ yC γ B (ds.drop (i + 1)) ρ' = some o, ?_, ?_⟩
    ·rintro σ' H' ⟨ρ', Hf', R', t', e'⟩
     exact ⟨ds.length - (i + 1), by omega, rfl, hil, ρ', Hf', R', t', e'⟩
    ·intro x H3 hy
     obtain ⟨Hf3, gr, hx⟩ := yld x H3 hy
     refine ⟨H₀, Hf₀, ρ2, Hf3, ds[i], ρ3, R2.grows gr, hx, eg, fun σ4 H4 Hf4 R4 t4 => ?_⟩
     refine ⟨H₀, Hf₀, ρ3, Hf4, o1, R4, eb, ?_⟩
     have tt : yi Hf1 Hf4 := (t2.trans gr.f).trans t4
     cases o1 with
     | nx ρ5 => exact fun σ5 H5 Hf5 R5 t5 => ⟨ρ5, Hf5, R5, tt.trans t5, eo⟩
     | ct ρ5 => exact fun σ5 H5 Hf5 R5 t5 => ⟨ρ5, Hf5, R5, tt.trans t5, eo⟩
     | bk ρ5 => cases eo; exact fun σ5 H5 Hf5 R5 t5 => k1 _ _ _ R5 (tt.trans t5)
     | rt d => cases eo; exact fun v σ5 ρ5 H5 Hf5 R5 t5 h5 => k1 _ _ _ _ _ R5 (tt.trans t5) h5
  ·left
   have : ds.drop i = [] := List.drop_eq_nil_of_le (by omega)
   rw [this] at el
   cases el
   exact ⟨w2 (by omega), k1 _ _ _ R2 t2⟩
def yZ (lo hi : Int) : List D := (g0u (hi - lo).toNat).map fun (k : Nat) => D.int (lo + (k : Int))
noncomputable def uS : List D -> Option (List D)
 | [.int j] => @ite _ (-(2 ^ 62) <= j /\ j < 2 ^ 62) (Classical.propDecidable _) (some (yZ 0 j)) none
 | _ => none
noncomputable def J3 (fa : FA) : FA := fun ρ => (fa ρ).bind uS
theorem XS {K : W.Frag} {Hf : Hp} {lo : Int} {n : Nat} : Walks K Hf (Itr lo n) ((g0u n).map fun (k : Nat) => D.int (lo + (k : Int))) := fun H2 Hf2 t2 sf2 i => by
 refine ⟨fun d hd => ?_, fun hle => ?_⟩
 ·rw [g0w] at hd
  cases e : (g0u n)[i]? with
  | none => rw [e] at hd; cases hd
  | some j =>
   rw [e] at hd
   cases hd
   obtain ⟨h1, h2⟩ := g1a.mp e
   simp at h1 h2
   subst h2
   refine ⟨h1, fun x H3 hy => ?_⟩
   obtain ⟨rfl, rfl⟩ := hy
   exact ⟨Hf2, Grows.refl sf2, Has.int_iff.mpr rfl⟩
 ·show n <= i
  simpa using hle
theorem vK {p pos : Pos} (hg : Gl X "range") (hm : X.mg "range" = none) (ha : DAR X [a] fa) (hs : starEach [a] X.env = [(false, eval a X.env)] := by rfl) : DI X tg (.Call (.Name "range" p) [a] [] pos) (J3 fa) :=
 DM (Qn hg hm ha hs) fun σ H R' ⟨H₀, Hf₀, ρ, Hf, ds, R, q, k⟩ => by
  obtain ⟨l, e1, e2⟩ := yp q
  unfold uS at e2
  split at e2
  ·split at e2
   ·cases e2
    rename_i j hj
    refine ⟨H₀, Hf₀, ρ, Hf, _, R, e1, fun vs H1 Hf1 R1 s1 t1 h1 => ?_⟩
    obtain ⟨v, rfl, hv⟩ := h1.one
    refine ⟨j, by rw [hv.int], hj.1, hj.2, k _ _ _ R1 s1 t1 ?_⟩
    have := XS (K := X.K) (Hf := Hf1) (lo := 0) (n := j.toNat)
    unfold yZ
    rw [Int.sub_zero]
    exact this
   ·cases e2
  ·cases e2
def xi (c : FT) (B : FS) : Nat -> Rho -> Option Out
 | 0, _ => none
 | n + 1, ρ => (c ρ).bind fun b => if b = true then (B ρ).bind fun o => match o with
   | .nx ρ2 => xi c B n ρ2
   | .ct ρ2 => xi c B n ρ2
   | .bk ρ2 => some (.nx ρ2)
   | .rt d => some (.rt d)
  else some (.nx ρ)
theorem VC (n : Nat) (hp : PassesOwn (model X.prog X.w) X.A X.env X.xe) (hc : DT X c ft) (hb : DSs X body B) : DS X (.While c body [] pos) (xi ft B n) :=
 xN (KB hp hc hb) fun D' σ H ⟨H₀, Hf₀, ρ, Hf, o, R, q, k⟩ => by
  refine ⟨fun m σ H => ∃ ρ Hf', Rep X.K H₀ Hf₀ σ ρ H Hf' /\ yi Hf Hf' /\ xi ft B m ρ = some o, ⟨n, ρ, Hf, R, zx, q⟩, ?_⟩
  rintro m σ2 H2 ⟨ρ2, Hf2, R2, t2, e2⟩
  cases m with
  | zero => cases e2
  | succ m =>
   unfold xi at e2
   obtain ⟨b, e3, e4⟩ := xU e2
   refine ⟨H₀, Hf₀, ρ2, Hf2, b, R2, e3, fun H3 Hf3 R3 s3 t3 => ?_⟩
   have tt := t2.trans t3
   cases b with
   | false => cases e4; exact Cb (k _ _ _ R3 tt)
   | true =>
    obtain ⟨o1, e5, e6⟩ := vM e4
    refine Ca ⟨fun σ' H' => ∃ ρ' Hf', Rep X.K H₀ Hf₀ σ' ρ' H' Hf' /\ yi Hf Hf' /\ xi ft B m ρ' = some o, fun σ' H' h => ⟨m, Nat.lt_succ_self _, h⟩, H₀, Hf₀, ρ2, Hf3, o1, R3, e5, ?_⟩
    cases o1 with
    | nx ρ5 => exact fun σ5 H5 Hf5 R5 t5 => ⟨ρ5, Hf5, R5, tt.trans t5, e6⟩
    | ct ρ5 => exact fun σ5 H5 Hf5 R5 t5 => ⟨ρ5, Hf5, R5, tt.trans t5, e6⟩
    | bk ρ5 => cases e6; exact fun σ5 H5 Hf5 R5 t5 => k _ _ _ R5 (tt.trans t5)
    | rt d => cases e6; exact fun v σ5 ρ5 H5 Hf5 R5 t5 h5 => k _ _ _ _ _ R5 (tt.trans t5) h5
def vd (i : Nat) (f : FE) : FS := fun ρ => (f ρ).bind fun d => match ρ[i]? with
 | some (.ol ds) => if ds.length < sizeLine then some (.nx (ρ.set i (.ol (ds ++ [d])))) else none
 | _ => none
theorem qF {x : Str} {p1 apos cpos pos : Pos} (i : Nat) (he : DE X e f) (hN : X.N[i]? = some x := by rfl) (hv : Vis X.env.scope x := by first | exact Or.inl rfl | exact Or.inr (Or.inl rfl) | exact Or.inr (Or.inr rfl))
  (hd : (x == ("__debug__" : Str)) = false := by decide) (hcd : (x == ("__classdict__" : Str)) = false := by decide)
  (hbase : attributeBase (.Name x p1) "append" X.env (eval (.Name x p1) X.env) = eval (.Name x p1) X.env := by rfl)
  (hfew : ((backTo cpos (starEach [e] X.env)).all (fun x => !x.1) && (backToKw cpos (keywordEach [] X.env)).all (fun x => x.1.isSome)
   && decide (([e] : List Expr).length + ([] : List Keyword).length + (if ([] : List Keyword).isEmpty then 0 else 1) < 30)) = true := by rfl)
  (hline : (apos.endLine == cpos.line) = true := by rfl) (hst : starEach [e] X.env = (false, eval e X.env) :: starEach [] X.env := by rfl) (hplain : (backTo cpos (starEach [] X.env)).any (·.1) = false := by rfl)
  (hs : swapsWith (.Call (.Attribute (.Name x p1) "append" apos) [e] [] cpos) none pos.line X.env = pure false := by rfl) :
  DS X (.Expr (.Call (.Attribute (.Name x p1) "append" apos) [e] [] cpos) pos) (vd i f) :=
 xN (Qi (D6 PySem.F.plainAttrs_list PySem.F.slot_list_append PySem.F.type_list_append Y6 (uj hN hv hd hcd) (wm he uT hst) hbase hfew hline hst hplain) hs) fun D' σ H ⟨H₀, Hf₀, ρ, Hf, o, R, q, k⟩ => by
  obtain ⟨d, e1, e2⟩ := zL q
  split at e2
  ·split at e2
   ·cases e2
    rename_i ds el hz
    obtain ⟨a, p1, ⟨xs, p2, p3⟩, p4, p5⟩ := R.ow i _ el rfl
    refine ⟨_, p1, .inl ⟨rfl, xs, SqL.of p2⟩, H₀, Hf₀, ρ, Hf, d, R, e1, fun v H1 Hf1 R1 s1 t1 h1 => ?_⟩
    obtain ⟨a', r1, ⟨ys, r2, r3⟩, r4, r5⟩ := R1.ow i _ el rfl
    rw [p1] at r1; cases r1
    refine ⟨a, ys, v, rfl, rfl, r2, by rw [r3.length]; exact hz, ?_⟩
    exact k _ _ _ (R1.updOwn el rfl p1 rfl ⟨_, zq, r3.append (.cons h1 .nil)⟩) t1
   ·cases e2
  ·cases e2
def Po (i j : Nat) (fa : FA) : FS := fun ρ => (fa ρ).bind fun l => match l with
 | [d, d'] => some (.nx ((ρ.set i (.fr d)).set j (.fr d')))
 | _ => none
end
def spF (K : W.Frag) (n : Nat) (g : List D -> Option D) : Sp := fun vs H Q _ => ∃ Hf ds d, yi Hf H /\ zP K Hf ds vs /\ ds.length = n /\ g ds = some d /\ ∀ v H' Hf', Grows H Hf H' Hf' -> Has K Hf' d v -> Q v H'
def jw (n : Nat) (ds : List D) : Rho := ds.map Slot.fr ++ g0e (n - ds.length) Slot.no
def Vd (o : Option Out) : Option D := match o with
 | some (.rt d) => some d
 | some (.nx _) => some .non
 | _ => none
def vL (m : Nat) (F : FS) : List D -> Option D := fun ds => Vd (F (jw m ds))
theorem Qf {K : W.Frag} {N : List Str} {H Hf : Hp} {ds : List D} {vs : List V} (sf : yi Hf H) (h : zP K Hf ds vs) : Rep K H Hf (L2.start N vs) (jw N.length ds) H Hf where
 s0 := zx
 sf := sf
 nf := fun b o e => .inl e
 f0 := zx
 len := by unfold jw L2.start; simp [h.length]
 fr := fun i d e => by
  unfold jw at e
  unfold L2.start
  by_cases hi : i < ds.length
  ·rw [g1k (by simpa using hi)] at e
   rw [g0w] at e
   cases e1 : ds[i]? with
   | none => rw [e1] at e; cases e
   | some d' =>
    rw [e1] at e; cases e
    obtain ⟨v, e2, e3⟩ := h.get e1
    refine ⟨v, ?_, e3⟩
    have hl := h.length
    rw [g1k (by simp; omega), g0w, e2]
    rfl
  ·rw [g1j (by simpa using hi), g2c] at e
   split at e <;> cases e
 ow := fun i sl e o => by
  unfold jw at e
  by_cases hi : i < ds.length
  ·rw [g1k (by simpa using hi), g0w] at e
   cases e1 : ds[i]? with
   | none => rw [e1] at e; cases e
   | some d' => rw [e1] at e; cases e; cases o
  ·rw [g1j (by simpa using hi), g2c] at e
   split at e
   ·cases e; cases o
   ·cases e
 inj := fun i j sl sl' a e o e' o' _ _ => by
  unfold jw at e
  by_cases hi : i < ds.length
  ·rw [g1k (by simpa using hi), g0w] at e
   cases e1 : ds[i]? with
   | none => rw [e1] at e; cases e
   | some d' => rw [e1] at e; cases e; cases o
  ·rw [g1j (by simpa using hi), g2c] at e
   split at e
   ·cases e; cases o
   ·cases e
section
variable {P : Program} {w : World} {K : W.Frag} {mg : Str -> Option Value} {base : Heap}
theorem yd {x qual : Str} {st : Stmt} {f : Addr} {fd : FuncData} {N ps : List Str} {k m n : Nat} {F : FS} (hm : N.length = m) (hn : ps.length = n) (Fn : Fun K x qual st f fd) (S : FnScope N ps (zd st))
  (body : ∀ (cdv : Value) (A : Around) (outer : List Env) (s : Shared) (H : Hp) (E : XK), Room k (A.deeper (envOfC qual (zd st) s.heap.objs.size f cdv)) →
   DSs (CH CX0 P w K mg base N qual (zd st) f cdv A outer s H E).nox (zE st) F) :
  FnOk P w K mg base CX0 (k + 1) f fd ps (spF K n (vL m F)) := by
 subst hm hn
 refine Fn.ok S (fun vs H Q E h => ?_) (fun cdv A outer s H vs Q E hr h => ?_)
 ·obtain ⟨Hf, ds, d, _, h1, h2, _⟩ := h
  rw [h1.length]; exact h2
 ·obtain ⟨Hf, ds, d, sf, h1, h2, h3, q⟩ := h
  refine ⟨_, body cdv A outer s H E hr, ?_⟩
  unfold vL Vd at h3
  have R := Qf (N := N) sf h1
  have fin : ∀ (v : V) (σ' : St) (ρ' : Rho) (H' Hf' : Hp), Rep K H Hf σ' ρ' H' Hf' -> Has K Hf' d v -> Q v H' := fun v σ' ρ' H' Hf' R' hv => q v H' Hf' ⟨R'.s0, R'.f0, R'.sf, R'.nf⟩ hv
  split at h3
  ·cases h3
   rename_i d e
   exact ⟨H, Hf, _, Hf, _, R, e, fun v σ' ρ' H' Hf' R' _ hv => fin v σ' ρ' H' Hf' R' hv⟩
  ·cases h3
   rename_i ρ' e
   exact ⟨H, Hf, _, Hf, _, R, e, fun σ' H' Hf' R' _ => fin _ σ' ρ' H' Hf' R' (Has.non_iff.mpr rfl)⟩
  ·cases h3
end
section
variable {X : Cx} {e : Expr} {es : List Expr} {fa : FA} {pos : Pos}
theorem Mi {CX : CXT} {k : Nat} {f : Addr} {fd : FuncData} {ps : List Str} {g : List D -> Option D} {E : XK} {x : Str} {p : Pos} {n : Nat} (Fn : FnOk X.prog X.w X.K X.mg X.base CX k f fd ps (spF X.K n g)) (hr : Room k X.A) (hg : Gl X x) (hm : X.mg x = some (.ref f))
  (hk : W.keepIn X.K (.ref f) = true) (hb : WL X.K fd ps []) (hx : VO CX X E) (ha : DA X (e :: es) fa) (hn : ∀ ρ ds, fa ρ = some ds -> ds.length = n)
  (hdb : (x == ("__debug__" : Str)) = false := by decide) (he : starEach (e :: es) X.env = (false, eval e X.env) :: starEach es X.env := by rfl) (hpl : (backTo pos (starEach es X.env)).any (·.1) = false := by rfl) :
  DE X (.Call (.Name x p) (e :: es) [] pos) (zN g fa) :=
 yy (Bm Fn hr hg hm hk hb .nil hx ha hdb he hpl) fun σ H Q ⟨H₀, Hf₀, ρ, Hf, d, R, q, k⟩ => by
  obtain ⟨ds, e1, e2⟩ := yp q
  refine ⟨H₀, Hf₀, ρ, Hf, ds, R, e1, fun vs H1 Hf1 R1 s1 t1 h1 => ?_⟩
  show spF X.K n g (vs ++ []) H1 Q E
  rw [g0t]
  exact ⟨Hf1, ds, d, R1.sf, h1, hn ρ ds e1, e2, fun v H2 Hf2 gr hv => k _ _ _ (R1.grows gr) (s1.trans gr.h) (t1.trans gr.f) hv⟩
end
theorem z7 : ∀ (ρ : Rho) (ds : List D), zw ρ = some ds -> ds.length = 0 := fun ρ ds h => by cases h; rfl
theorem zp {f : FE} {g : FA} {n : Nat} (h : ∀ (ρ : Rho) (ds : List D), g ρ = some ds -> ds.length = n) : ∀ (ρ : Rho) (ds : List D), za f g ρ = some ds -> ds.length = n + 1 := fun ρ ds q => by
 obtain ⟨x, xs, _, e2, rfl⟩ := jo q
 simp [h ρ xs e2]
theorem law_sp {K : W.Frag} {g : List D -> Option D} {H : Hp} {a : Addr} {ns : List Int} (hq : SqL K H a (ns.map V.int)) (hg : g [.lst (ns.map D.int)] = some (.bl true)) : spF K 1 g [.ref a] H (fun v _ => v = .bl true) fun _ _ _ => False :=
 ⟨H, [.lst (ns.map D.int)], .bl true, zx, .cons (Has.lst_iff.mpr ⟨a, _, rfl, hq, zP.ints ns⟩) .nil, rfl, hg, fun v H' Hf' _ hv => Has.bl_iff.mp hv⟩
def tyN : D -> String
 | .non => "NoneType"
 | .bl _ => "bool"
 | .int _ => "int"
 | .str _ => "str"
 | .tup _ => "tuple"
 | .lst _ => "list"
def VY (t T : String) : Bool := t == T || (t == "bool" && T == "int")
def FI (T : String) (d : D) : Option D := some (.bl (VY (tyN d) T))
def My (T : String) : Prop := ∀ (K : W.Frag) (d : D), PySem.W.kitOne K (.type (tyN d)) (.type T) = some (VY (tyN d) T)
theorem C8 : My "int" := fun K d => by cases d <;> kernel_rfl
theorem HC : My "bool" := fun K d => by cases d <;> kernel_rfl
theorem J7 : My "tuple" := fun K d => by cases d <;> kernel_rfl
section
variable {X : Cx} {pins : List (Addr × Obj)} {σ : St} {H : Hp} {s : Shared} {A : Around} {E : Value -> Shared -> Prop} {Q : Value -> Shared -> Prop} {c : Value} {b : Bool}
theorem Gn {d : D} {v : V} {u : Value} (I : Inv X pins σ H s) (hd : Has X.K H d v) (rx : yV v u) (e : PySem.W.kitOne X.K (.type (tyN d)) c = some b) (h : ∀ tk, Q (.bool b) { s with toks := tk }) :
  wpAny (model X.prog X.w) A (call (.builtin "isinstance") [u, c]) Q E s := by
 cases d with
 | non => rw [Has.non_iff] at hd; subst hd; cases rx; exact PySem.W.kia_one PySem.W.kitx_none I.kIn True.intro e (fun z => nomatch z) h
 | bl y => rw [Has.bl_iff] at hd; subst hd; cases rx; exact PySem.W.kia_one PySem.W.kitx_bool I.kIn True.intro e (fun z => nomatch z) h
 | int y => rw [Has.int_iff] at hd; subst hd; obtain ⟨t, rfl⟩ := rx; exact PySem.W.kia_one PySem.W.kitx_int I.kIn True.intro e (fun z => nomatch z) h
 | str y => rw [Has.str_iff] at hd; subst hd; obtain ⟨t, rfl⟩ := rx; exact PySem.W.kia_one PySem.W.kitx_str I.kIn True.intro e (fun z => nomatch z) h
 | tup ds =>
  obtain ⟨a, xs, rfl, q, _⟩ := Has.tup_iff.mp hd
  cases rx
  obtain ⟨its, _, ⟨o, h1, h2, _⟩, _⟩ := I.tuple q
  exact PySem.W.kia_one PySem.W.kitx_tuple I.kIn ⟨o, h1, h2⟩ e (fun z => nomatch z) h
 | lst ds =>
  obtain ⟨a, xs, rfl, q, _⟩ := Has.lst_iff.mp hd
  cases rx
  obtain ⟨its, _, ⟨o, n, h1, h2, _⟩, _⟩ := I.list q
  exact PySem.W.kia_one PySem.W.kitx_list I.kIn ⟨o, h1, h2⟩ e (fun z => nomatch z) h
end
section
variable {X : Cx} {e a b c : Expr} {es : List Expr} {f g h : FE} {fa ga : FA} {pos : Pos}
theorem JK {T : String} (hT : My T) : w6 X (.builtin "isinstance") (fun xs H Q => ∃ v d, xs = [v, .ty T] /\ Has X.K H d v /\ Q (.bl (VY (tyN d) T)) H) := by
 intro pins s σ H xs us Q I r h
 obtain ⟨v, d, rfl, hd, q⟩ := h
 obtain ⟨u, w', rfl, rx, ry⟩ := HB r
 cases ry
 exact Gn I hd rx (hT X.K d) fun tk => ⟨.bl _, H, I.tok _, rfl, q⟩
theorem Jz {T : String} {x y : Str} {p p2 : Pos} (hT : My T) (ha : DR X a f) (hg : Gl X x) (hm : X.mg x = none) (hg2 : Gl X y) (hm2 : X.mg y = none) (hv : bootBuiltins x = some (.builtin "isinstance") := by rfl) (hv2 : bootBuiltins y = some (.type T) := by rfl)
  (hn : x ≠ "__name__" := by decide) (hdb : (x == ("__debug__" : Str)) = false := by decide) (hn2 : y ≠ "__name__" := by decide) (hdb2 : (y == ("__debug__" : Str)) = false := by decide)
  (he : starEach [a, .Name y p2] X.env = (false, eval a X.env) :: starEach [.Name y p2] X.env := by rfl) (he2 : starEach [.Name y p2] X.env = (false, eval (.Name y p2) X.env) :: starEach [] X.env := by rfl) (hpl : (backTo pos (starEach [.Name y p2] X.env)).any (·.1) = false := by rfl) :
  DE X (.Call (.Name x p) [a, .Name y p2] [] pos) (wG (FI T) f) :=
 yy (Yf (JK hT) hg hm hv (wm ha (wm (Bn (v := .ty T) hg2 hm2 hv2 rfl hn2 hdb2) uT he2) he) hn hdb he hpl) fun σ H Q ⟨H₀, Hf₀, ρ, Hf, d, R, q, k⟩ => by
  obtain ⟨x, e1, e2⟩ := zL q
  cases e2
  exact ⟨H₀, Hf₀, ρ, Hf, x, R, e1, fun v H1 Hf1 R1 s1 t1 h1 => ⟨v, x, rfl, h1.full R1, k _ _ _ R1 s1 t1 (Has.bl_iff.mpr rfl)⟩⟩
theorem Xo {x z : Str} {pos : Pos} (hg : Gl X x) (hm : ∃ t, X.mg x = some (.str z t)) (hd : (x == ("__debug__" : Str)) = false := by decide) : DE X (.Name x pos) (cF (.str z)) := by
 obtain ⟨t, hm⟩ := hm
 exact Hq hg hm rfl ⟨t, rfl⟩ hd
theorem Xp {x : Str} {z : Int} {pos : Pos} (hg : Gl X x) (hm : ∃ t, X.mg x = some (.int z t)) (hd : (x == ("__debug__" : Str)) = false := by decide) : DE X (.Name x pos) (cF (.int z)) := by
 obtain ⟨t, hm⟩ := hm
 exact Hq hg hm rfl ⟨t, rfl⟩ hd
end
structure HasFn (P : Program) (w : World) (K : W.Frag) (mg : Str -> Option Value) (base : Heap) (k : Nat) (x : Str) (n : Nat) (g : List D -> Option D) : Prop where
 ex : ∃ (f : Addr) (fd : FuncData) (ps : List Str), FnOk P w K mg base CX0 k f fd ps (spF K n g) /\ mg x = some (.ref f) /\ W.keepIn K (.ref f) = true /\ WL K fd ps []
theorem zo {X : Cx} {e : Expr} {es : List Expr} {fa : FA} {pos : Pos} {k : Nat} {g : List D -> Option D} {x : Str} {p : Pos} {n : Nat} (Fn : HasFn X.prog X.w X.K X.mg X.base k x n g) (hr : Room k X.A) (hg : Gl X x) (ha : DA X (e :: es) fa) (hn : ∀ ρ ds, fa ρ = some ds -> ds.length = n)
  (hdb : (x == ("__debug__" : Str)) = false := by decide) (he : starEach (e :: es) X.env = (false, eval e X.env) :: starEach es X.env := by rfl) (hpl : (backTo pos (starEach es X.env)).any (·.1) = false := by rfl) :
  DE X (.Call (.Name x p) (e :: es) [] pos) (zN g fa) := by
 obtain ⟨f, fd, ps, h1, h2, h3, h4⟩ := Fn.ex
 exact Mi h1 hr hg h2 h3 h4 Nd ha hn hdb he hpl
theorem QM {n k : Nat} (h : n < 2 ^ k) (hk : k <= 8000) : n < big := g1c h (Nat.pow_le_pow_right (by decide) hk)
theorem kf {i j : Int} (h1 : i.natAbs < big) (h2 : j.natAbs < big) : UP i j := .inr (.inr ⟨h1, h2⟩)
theorem vc {i j : Int} (h1 : -(2 ^ 64) < i) (h2 : i < 2 ^ 64) : UP i j := .inl (by omega)
theorem xR {i j : Int} (h : UP i j) : u5 (.int i) (.int j) = some (.int (i * j)) := by
 show (if UP i j then _ else _) = _
 rw [if_pos h]
theorem xq {i j : Int} (h : 0 < j) : kh (.int i) (.int j) = some (.int (i % j)) := by
 show (if 0 < j then _ else _) = _
 rw [if_pos h]
theorem wC {i j : Int} (h : 0 < j) (h2 : j < 2 ^ 64) : ur (.int i) (.int j) = some (.int (i / j)) := by
 show (if C1 j then _ else _) = _
 rw [if_pos ⟨h, h2⟩]
theorem Be {i j : Int} (h : CT i j) : CW (.int i) (.int j) = some (.int (i ^ j.toNat)) := by
 show (if CT i j then _ else _) = _
 rw [if_pos h]
theorem Cf {i j : Int} : eqF (.int i) (.int j) = some (.bl (decide (i = j))) := by unfold eqF; simp [dep, eqD]; rfl
theorem ke {i j : Int} : neF (.int i) (.int j) = some (.bl (!decide (i = j))) := by unfold neF; simp [dep, eqD]; rfl
theorem ZF {lo hi : Int} {i : Nat} {d : D} (h : (yZ lo hi)[i]? = some d) : d = .int (lo + i) /\ (i : Int) < hi - lo := by
 unfold yZ at h
 rw [g0w] at h
 cases e : (g0u (hi - lo).toNat)[i]? with
 | none => rw [e] at h; cases h
 | some j =>
  rw [e] at h
  cases h
  obtain ⟨h1, h2⟩ := g1a.mp e
  simp at h1 h2
  subst h2
  exact ⟨rfl, by omega⟩
theorem qt (lo hi : Int) : (yZ lo hi).length = (hi - lo).toNat := by simp [yZ]
def uw (env : Env) : List (Str × NameKind) -> List (Str × Addr) -> Option (List (Str × Addr))
 | [], cs => some cs
 | (n, k) :: r, cs => if k == .free then match env.cells.lookup n with
   | some c => uw env r ((n, c) :: cs)
   | none => none
  else uw env r cs
def ux (env : Env) : (Str × NameKind) -> List (Str × Addr) -> Sem (ForInStep (List (Str × Addr))) := fun x c => match x with
 | (name, kind) => if (kind == NameKind.free) = true then do let a ← cellOf env name; pure (ForInStep.yield ((name, a) :: c)) else pure (ForInStep.yield c)
theorem Zo {env : Env} {n : Str} {k : NameKind} {c : Addr} {cs : List (Str × Addr)} (hk : (k == NameKind.free) = true) (hc : env.cells.lookup n = some c) : ux env (n, k) cs = pure (.yield ((n, c) :: cs)) := by
 unfold ux cellOf
 simp only [hk, if_true, hc]
 rfl
theorem Xu {env : Env} {n : Str} {k : NameKind} {cs : List (Str × Addr)} (hk : (k == NameKind.free) = false) : ux env (n, k) cs = pure (.yield cs) := by
 unfold ux
 simp only [hk, g1o, if_false]
theorem jr {env : Env} : ∀ (l : List (Str × NameKind)) (cs cl : List (Str × Addr)), uw env l cs = some cl -> (forIn l cs (ux env) : Sem (List (Str × Addr))) = pure cl
 | [], cs, cl, h => by cases h; rfl
 | (n, k) :: r, cs, cl, h => by
  rw [List.forIn_cons]
  unfold uw at h
  cases hk : k == NameKind.free with
  | true =>
   rw [hk] at h
   cases hc : env.cells.lookup n with
   | none => rw [hc] at h; cases h
   | some c =>
    rw [hc] at h
    rw [Zo hk hc]
    exact jr r _ cl h
  | false =>
   rw [hk] at h
   rw [Xu hk]
   exact jr r _ cl h
theorem Yw {scope : Scope} {env : Env} {cl : List (Str × Addr)} (h : uw env scope.names [] = some cl) : closureFor scope env = pure cl := by
 have e := jr (env := env) scope.names [] cl h
 unfold closureFor
 simp only [bind_pure]
 exact e
theorem jq {env : Env} : ∀ (l : List (Str × NameKind)) (cs : List (Str × Addr)), (∀ n, (n, NameKind.free) ∈ l -> ∃ c, env.cells.lookup n = some c) -> (∀ x c, cs.lookup x = some c -> env.cells.lookup x = some c) →
    ∃ cl, uw env l cs = some cl /\ (∀ x c, cl.lookup x = some c -> env.cells.lookup x = some c) /\ (∀ x c, cs.lookup x = some c -> ∃ c', cl.lookup x = some c') /\ ∀ n, (n, NameKind.free) ∈ l -> ∃ c, cl.lookup n = some c
  | [], cs, _, h2 => ⟨cs, rfl, h2, fun x c e => ⟨c, e⟩, fun n hn => by cases hn⟩
  | (n, k) :: r, cs, h1, h2 => by
    cases hk : k == NameKind.free with
    | true =>
      have hkf : k = .free := by simpa using hk
      subst hkf
      obtain ⟨c, hc⟩ := h1 n g0l
      obtain ⟨cl, e1, e2, e3, e4⟩ := jq r ((n, c) :: cs) (fun m hm => h1 m (g0o _ hm)) (fun x d e => by
        rw [g1v] at e
        cases hx : x == n with
        | true => rw [hx] at e; cases e; have : x = n := by simpa using hx
                  rw [this]; exact hc
        | false => rw [hx] at e; exact h2 x d e)
      refine ⟨cl, by unfold uw; rw [hk, hc]; exact e1, e2, fun x d e => ?_, fun m hm => ?_⟩
      · cases hx : x == n with
        | true => exact e3 x c (by rw [g1v, hx])
        | false => exact e3 x d (by rw [g1v, hx]; exact e)
      · rcases g0n.mp hm with q | q
        · cases q; exact e3 n c (by rw [g1v]; simp)
        · exact e4 m q
    | false =>
      obtain ⟨cl, e1, e2, e3, e4⟩ := jq r cs (fun m hm => h1 m (g0o _ hm)) h2
      refine ⟨cl, by unfold uw; rw [hk]; exact e1, e2, e3, fun m hm => ?_⟩
      rcases g0n.mp hm with q | q
      · cases q; simp at hk
      · exact e4 m q
structure CompScope (osc : Scope) (scope : Scope) (own frees : List Str) : Prop where
 kind : scope.kind = .function
 nocell : ∀ y ∈ scope.names, y.2 ≠ .cell
 loc : ∀ y ∈ scope.names, y.2 = .local -> scope.names.lookup y.1 = some .local
 free : ∀ y ∈ scope.names, y.2 = .free -> osc.names.lookup y.1 = some .cell \/ osc.names.lookup y.1 = some .free
 capt : ∀ x ∈ frees, (osc.names.lookup x = some .cell \/ osc.names.lookup x = some .free) /\ scope.names.lookup x = some .free
theorem ZK {α : Type} : ∀ {l : List (Str × α)} {x : Str} {k : α}, l.lookup x = some k -> (x, k) ∈ l
  | [], _, _, h => by simp at h
  | (n, k) :: r, x, k', h => by
    rw [g1v] at h
    cases hx : x == n with
    | true => rw [hx] at h; cases h; have : x = n := by simpa using hx
              subst this; exact g0l
    | false => rw [hx] at h; exact g0o _ (ZK h)
theorem ZD {env : Env} {x : Str} : ∀ {l : List (Str × NameKind)}, (∀ y ∈ l, y.2 ≠ .cell) →
    ((l.map fun (n, k) => if (k == NameKind.free && env.scope.kind == .function && env.kindOf n == some .cell) then (n, NameKind.cell) else (n, k)).lookup x = some .cell ∨
     (l.map fun (n, k) => if (k == NameKind.free && env.scope.kind == .function && env.kindOf n == some .cell) then (n, NameKind.cell) else (n, k)).lookup x = some .free) -> (x, NameKind.free) ∈ l
  | [], _, h => by simp at h
  | (n, k) :: r, hc, h => by
    have ih := @ZD env x r (fun y hy => hc y (g0o _ hy))
    have hk : k ≠ .cell := hc (n, k) g0l
    rw [g0f] at h
    by_cases hq : (k == NameKind.free && env.scope.kind == .function && env.kindOf n == some .cell) = true
    · simp only [hq, if_true, g1v] at h
      cases hx : x == n with
      | true =>
        have e1 : x = n := by simpa using hx
        have e2 : k = .free := by simp at hq; exact hq.1.1
        subst e1 e2; exact g0l
      | false => rw [hx] at h; exact g0o _ (ih h)
    · simp only [hq, g1o, if_false, g1v] at h
      cases hx : x == n with
      | true =>
        rw [hx] at h
        have e1 : x = n := by simpa using hx
        subst e1
        rcases h with h | h
        · cases h; exact absurd rfl hk
        · cases h; exact g0l
      | false => rw [hx] at h; exact g0o _ (ih h)
theorem jC {env : Env} {x : Str} : ∀ {l : List (Str × NameKind)}, l.lookup x = some .free →
    ((l.map fun (n, k) => if (k == NameKind.free && env.scope.kind == .function && env.kindOf n == some .cell) then (n, NameKind.cell) else (n, k)).lookup x = some .cell ∨
     (l.map fun (n, k) => if (k == NameKind.free && env.scope.kind == .function && env.kindOf n == some .cell) then (n, NameKind.cell) else (n, k)).lookup x = some .free)
  | [], h => by simp at h
  | (n, k) :: r, h => by
    have ih := @jC env x r
    rw [g0f]
    rw [g1v] at h
    by_cases hq : (k == NameKind.free && env.scope.kind == .function && env.kindOf n == some .cell) = true
    · simp only [hq, if_true, g1v]
      cases hx : x == n with
      | true => exact .inl rfl
      | false => rw [hx] at h; exact ih h
    · simp only [hq, g1o, if_false, g1v]
      cases hx : x == n with
      | true => rw [hx] at h; exact .inr h
      | false => rw [hx] at h; exact ih h
theorem Xs {prog : Program} {w : World} {A : Around} {R : Result -> Shared -> Prop} {s : Shared} {elt target iter : Expr} {ifs : List Expr} {scope : Scope} {pos : Pos} {it acc : Value} {env : Env} (I : Nat -> Shared -> Prop)
  (turn : ∀ n s, I n s -> wpAny (model prog w) A (pyNext it) (fun r s₁ => match r with
   | none => R (.ok .next) s₁
   | some v => wpAny (model prog w) A (letOwnedTupleGo target it v) (fun _ s₁' => wpAny (model prog w) A (assign target env v) (fun _ s₂ =>
     wpAny (model prog w) A (forIn ifs true fun c r => if r = true then do let ok ← isTrue c env (eval c env); pure (ForInStep.yield ok) else pure (ForInStep.yield r)) (fun ok s₃ =>
      if ok = true then wpAny (model prog w) A (eval elt env) (fun x s₄ =>
       wpAny (model prog w) A (call (.builtin "list.append") [acc, x]) (fun _ s₅ => ∃ m, m < n /\ I m s₅) (fun _ _ => False) s₄) (fun _ _ => False) s₃
      else ∃ m, m < n /\ I m s₃) (fun _ _ => False) s₂) (fun _ _ => False) s₁') (fun _ _ => False) s₁) (fun _ _ => False) s)
  (n : Nat) (h : I n s) :
  codeAny (model prog w) A (.compLoop (.ListComp elt [⟨target, iter, ifs, 0⟩] scope pos) 0 it acc env) R s := by
 refine codeAny_loop rfl I (fun n s hI => ?_) n h
 show wpAny _ A ((compTurn (.ListComp elt [⟨target, iter, ifs, 0⟩] scope pos) 0 it acc env).onRaise (fun x => do noteFrame x env; theTreesLotGoes x)) _ _ s
 refine wpAny_noted ?_
 rw [compTurn_list]
 refine wpAny_bind (wpAny_standAt (wpAny_bind (wpAny_mono (turn n s hI) (fun r s₁ h₁ => ?_) fun _ _ h' => h'.elim)))
 cases r with
 | none => exact wpAny_pure h₁
 | some v =>
  refine wpAny_bind (wpAny_mono h₁ (fun _ s₁' h₁' => ?_) fun _ _ h' => h'.elim)
  refine wpAny_bind (wpAny_mono h₁' (fun _ s₂ h₂ => wpAny_bind (wpAny_mono h₂ (fun ok s₃ h₃ => ?_) fun _ _ h' => h'.elim)) fun _ _ h' => h'.elim)
  cases ok with
  | false => exact wpAny_pure ⟨rfl, h₃⟩
  | true =>
   exact wpAny_bind (wpAny_bind (wpAny_mono h₃ (fun x s₄ h₄ => wpAny_bind (wpAny_mono h₄ (fun _ s₅ h₅ => wpAny_pure (wpAny_pure ⟨rfl, h₅⟩)) fun _ _ h' => h'.elim)) fun _ _ h' => h'.elim))
def cxC (X : Cx) (scope : Scope) (cl : List (Str × Addr)) (C : Addr) (N : List Str) (s : Shared) (H : Hp) (fp : List Addr) : Cx :=
 { X with N := N, s₀ := s, H₀ := H, env := compEnvC scope cl C X.env, outer := X.stack, stack := X.stack, ex := fp, fn := fun _ => false, pn := [], xe := fun _ _ => False }
def Mo (ρ : Rho) (j : Nat) : Slot := match ρ[j]? with
 | some (.fr d) => .fr d
 | _ => .no
def yM (γ : FG) (ft : FT) (f : FE) : List D -> Rho -> Option (List D)
 | [], _ => some []
 | d :: ds, ρ => (γ d ρ).bind fun ρ1 => (ft ρ1).bind fun b => if b = true then (f ρ1).bind fun y => (yM γ ft f ds ρ1).bind fun ys => some (y :: ys) else yM γ ft f ds ρ1
def uv (n : Nat) (caps : List Nat) (ρ : Rho) : Rho := g0e n .no ++ caps.map (Mo ρ)
def xt (n : Nat) (caps : List Nat) (fi : FA) (γ : FG) (ft : FT) (f : FE) : FA := fun ρ => (fi ρ).bind fun ds => if ds.length <= sizeLine then yM γ ft f ds (uv n caps ρ) else none
def DQ (X : Cx) (ifs : List Expr) (ft : FT) : Prop :=
 ∀ (pins : List (Addr × Obj)) (s : Shared) (σ : St) (H : Hp) (Q : Bool -> Hp -> Prop), Inv X pins σ H s -> tT X.K ft σ H Q →
  wpAny (model X.prog X.w) X.A (forIn ifs true fun c r => if r = true then do let ok ← isTrue c X.env (eval c X.env); pure (ForInStep.yield ok) else pure (ForInStep.yield r)) (TP X pins σ Q) X.xe s
def ttF : FT := fun _ => some true
theorem w9 {X : Cx} : DQ X [] ttF := fun pins s σ H Q I h => by
 obtain ⟨H₀, Hf₀, ρ, Hf, b, R, q, k⟩ := h
 cases q
 exact wpAny_tests_nil ⟨H, I, k _ _ R zx zx⟩
theorem ZP {X : Cx} {c : Expr} {ft : FT} (h : DT X c ft) : DQ X [c] ft := fun pins s σ H Q I hq => wpAny_tests_one (h pins s σ H Q I hq)
def Yv (n : Nat) (caps : List Nat) (σ : St) : St := g0e n none ++ caps.map (fun j => σ.getD j none)
section
variable {X : Cx} {scope : Scope} {own frees : List Str} {caps : List Nat} {cl : List (Str × Addr)}
theorem Mj {pins : List (Addr × Obj)} {s : Shared} {σ : St} {H : Hp} {fp : List Addr} {C : Addr} {N : List Str} (I : Inv X pins σ H s) (S : CompScope X.env.scope scope own frees) (hfp : ∀ b ∈ fp, uz X pins H b) (hfo : ∀ b ∈ fp, b < s.heap.objs.size)
  (c1 : ∀ x c, cl.lookup x = some c -> X.env.cells.lookup x = some c) (c2 : ∀ n, (n, NameKind.free) ∈ scope.names -> ∃ c, cl.lookup n = some c) (hC : s.heap.objs.size <= C) : (cxC X scope cl C N s H fp).Ok where
 mod := I.ok.mod
 kind := S.kind
 glob := I.ok.glob
 blt := I.ok.blt
 above := hC
 inj := fun x y c e1 e2 => I.ok.inj x y c (c1 x c e1) (c1 y c e2)
 has := fun x hx => c2 x (ZD S.nocell hx)
 cab := fun x c h => by cases h
 hd := I.ok.hd
 frames := I.ok.frames
 stk := .inl rfl
 exf := fun b hb => ⟨g1g (g1c (hfo b hb) hC), fun x c e => (hfp b hb).2.2.2.2.1 x c (c1 x c e)⟩
 bs := I.bs
 bsz := g1x I.ok.bsz I.sz
 noex := fun b o e hb => by
  rcases (hfp b hb).2.2.2.1 with z | z
  ·exact I.ok.noex b o e z
  ·exact absurd (g1c (Heap.lt_size e) (g1x I.ok.bsz z)) (g3c _)
 exfs := fun b hb z => by
  rcases g0n.mp (I.stkSub b z) with q | q
  ·exact (hfp b hb).2.1 q
  ·exact (hfp b hb).2.2.1 q
 funs := I.stack
 frf := I.stkFree
theorem BQ {caps : List Nat} {N : List Str} {frees : List Str} (h : caps.map (fun j => N[j]?) = frees.map some) {k : Nat} {x : Str} (e : frees[k]? = some x) : ∃ j, caps[k]? = some j /\ N[j]? = some x := by
 have := congrArg (fun l => l[k]?) h
 simp only [g0w, e, g0z] at this
 cases hc : caps[k]? with
 | none => rw [hc] at this; cases this
 | some j => rw [hc] at this; exact ⟨j, rfl, by simpa using this⟩
theorem CI {pins : List (Addr × Obj)} {s : Shared} {σ : St} {H : Hp} {fp : List Addr} {h' : Heap} {t' : Nat} (I : Inv X pins σ H s) (S : CompScope X.env.scope scope own frees) (hcap : caps.map (fun j => X.N[j]?) = frees.map some) (hfp : ∀ b ∈ fp, uz X pins H b) (hfo : ∀ b ∈ fp, b < s.heap.objs.size)
  (c1 : ∀ x c, cl.lookup x = some c -> X.env.cells.lookup x = some c) (c2 : ∀ n, (n, NameKind.free) ∈ scope.names -> ∃ c, cl.lookup n = some c) {C : Addr} (hC : C = s.heap.objs.size + 1) (hns : h'.Ns C fun _ => none)
  (hsb : Heap.SameBut C ((s.heap.push { cls := .type "list", dict := none, data := .seq #[] }).push { cls := .type "dict", data := .dict #[] }) h') :
  Inv (cxC X scope cl C (own ++ frees) s H fp) [] (Yv own.length caps σ) (upd H s.heap.objs.size (.lst [])) { s with heap := h', toks := t' } := by
 have hk : ∀ b u, s.heap.get? b = some u -> h'.get? b = some u := fun b u e => (hsb.2 b (by rw [hC]; exact g1g (Nat.lt_succ_of_lt (Heap.lt_size e)))).trans (Heap.get?_push_of_some _ (Heap.get?_push_of_some _ e))
 have hD : h'.get? s.heap.objs.size = some { cls := .type "list", dict := none, data := .seq #[] } := (hsb.2 _ (by rw [hC]; exact g1g (Nat.lt_succ_self _))).trans (Heap.get?_push_of_some _ (Heap.get?_push_size _ rfl))
 have hfD : H s.heap.objs.size = none := I.hok.fresh (g0r _)
 have hfC : H C = none := I.hok.fresh (by rw [hC]; exact g3a _)
 have hCD : C ≠ s.heap.objs.size := by rw [hC]; exact Nat.succ_ne_self _
 have new : we X.prog X.w (upd H s.heap.objs.size (.lst [])) h' s.heap.objs.size (.lst []) := ⟨by decide, [], 0, .nil, hD⟩
 refine ⟨Mj I S hfp hfo c1 c2 (by rw [hC]; exact g3a _), rfl, I.bare, Un.laid hk (g0r _) hfD, ⟨fun _ => none, hns, ?_⟩, ?_, ?_, ?_, ?_, I.hok.laid hk (g0r _) new, ?_⟩
 ·intro i x v e1 e2 hv
  have e1 : (own ++ frees)[i]? = some x := e1
  unfold Yv at e2
  by_cases h1 : i < own.length
  ·rw [g1k (by simpa using h1), g2c, if_pos h1] at e2
   cases e2
  ·rw [g1j (by simpa using h1)] at e2
   rw [g1j (by omega)] at e1
   have hcl : caps.length = frees.length := by have := congrArg List.length hcap; simpa using this
   simp only [List.length_replicate] at e2
   ·rw [g0w] at e2
    obtain ⟨j, q1, q2⟩ := BQ hcap e1
    rw [q1] at e2
    have e2 : σ.getD j none = some v := by simpa using e2
    have e2' : σ[j]? = some (some v) := by
     rw [g0j] at e2
     cases z : σ[j]? with
     | none => rw [z] at e2; cases e2
     | some w => rw [z] at e2; simp at e2; rw [e2]
    obtain ⟨hx, hsx⟩ := S.capt x (g2m e1)
    obtain ⟨m, hn, hl⟩ := I.loc
    obtain ⟨u, r, lk⟩ := hl j x v q2 e2' (.inr hx)
    refine ⟨u, r, ?_⟩
    rcases lk with ⟨k1, _⟩ | ⟨k1, c, k2, k3⟩
    ·have k1 : X.env.scope.names.lookup x = some .local := k1
     rcases hx with z | z <;> rw [z] at k1 <;> cases k1
    ·obtain ⟨c', hc'⟩ := c2 x (ZK hsx)
     have z := c1 x c' hc'
     rw [k2] at z; cases z
     obtain ⟨o, ho, hd⟩ := k3
     exact .inr ⟨jC hsx, c, hc', o, hk _ _ ho, hd⟩
 ·intro x c e
  obtain ⟨v, o, ho, hd⟩ := I.cell x c (c1 x c e)
  exact ⟨v, o, hk _ _ ho, hd⟩
 ·show (upd H s.heap.objs.size (.lst [])) C = none
  rw [zF hCD]; exact hfC
 ·intro x c e
  have z := I.freeC x c (c1 x c e)
  obtain ⟨v, o, ho, hd⟩ := I.cell x c (c1 x c e)
  show (upd H s.heap.objs.size (.lst [])) c = none
  rw [zF (g1g (Heap.lt_size ho))]; exact z
 ·intro p hp; cases hp
 ·show (Yv own.length caps σ).length = (own ++ frees).length
  have hcl : caps.length = frees.length := by have := congrArg List.length hcap; simpa using this
  simp [Yv, hcl]
def qO (ρ : Rho) : Prop := ∀ (i : Nat) (sl : Slot), ρ[i]? = some sl -> sl.own = false
theorem Rep.rebase {K : W.Frag} {H₀ Hf₀ : Hp} {σ : St} {ρ : Rho} {H Hf H' : Hp} (R : Rep K H₀ Hf₀ σ ρ H Hf) (hn : qO ρ) (hs : yi Hf H') : Rep K H' Hf σ ρ H' Hf where
 s0 := zx
 sf := hs
 nf := fun _ _ e => .inl e
 f0 := zx
 len := R.len
 fr := R.fr
 ow := fun i sl e o => by rw [hn i sl e] at o; cases o
 inj := fun i j sl sl' a e o => by rw [hn i sl e] at o; cases o
def uy (γ : FG) : Prop := ∀ d ρ ρ', γ d ρ = some ρ' -> qO ρ -> qO ρ'
theorem qO.set {ρ : Rho} (h : qO ρ) (i : Nat) (d : D) : qO (ρ.set i (.fr d)) := fun j sl e => by
 rw [g0x] at e
 split at e
 ·split at e
  ·cases e; rfl
  ·cases e
 ·exact h j sl e
theorem yk {i : Nat} : uy (zu i) := fun d ρ ρ' e h => by cases e; exact h.set i d
def jZ (δ : FGs) : Prop := ∀ ds ρ ρ', δ ds ρ = some ρ' -> qO ρ -> qO ρ'
theorem kr : jZ jF := fun ds ρ ρ' e h => by
 cases ds with
 | nil => cases e; exact h
 | cons _ _ => cases e
theorem xI {γ : FG} {δ : FGs} (h1 : uy γ) (h2 : jZ δ) : jZ (yg γ δ) := fun ds ρ ρ' e h => by
 cases ds with
 | nil => cases e
 | cons d r =>
  have e : (γ d ρ).bind (fun ρ' => δ r ρ') = some ρ' := e
  cases e1 : γ d ρ with
  | none => rw [e1] at e; cases e
  | some ρ1 => rw [e1] at e; exact h2 r ρ1 ρ' e (h1 d ρ ρ1 e1 h)
theorem Xc {n : Nat} {δ : FGs} (h : jZ δ) : uy (qQ n δ) := fun d ρ ρ' e hn => by
 unfold qQ at e
 split at e
 ·split at e
  ·exact h _ ρ ρ' e hn
  ·cases e
 ·cases e
theorem qO.comp {n : Nat} {caps : List Nat} {ρ : Rho} : qO (uv n caps ρ) := fun i sl e => by
 unfold uv at e
 by_cases h : i < n
 ·rw [g1k (by simpa using h), g2c, if_pos h] at e
  cases e; rfl
 ·rw [g1j (by simpa using h), g0w] at e
  cases q : caps[i - (g0e n Slot.no).length]? with
  | none => rw [q] at e; cases e
  | some j =>
   rw [q] at e
   cases e
   unfold Mo
   split <;> rfl
theorem Kw {K : W.Frag} {H₀ Hf₀ : Hp} {σ : St} {ρ : Rho} {H Hf H' : Hp} {n : Nat} {caps : List Nat} (R : Rep K H₀ Hf₀ σ ρ H Hf) (hs : yi Hf H') : Rep K H' Hf (Yv n caps σ) (uv n caps ρ) H' Hf where
 s0 := zx
 sf := hs
 nf := fun _ _ e => .inl e
 f0 := zx
 len := by simp [uv, Yv]
 fr := fun i d e => by
  unfold uv at e
  unfold Yv
  by_cases h : i < n
  ·rw [g1k (by simpa using h), g2c, if_pos h] at e
   cases e
  ·rw [g1j (by simpa using h), g0w] at e ⊢
   simp only [List.length_replicate] at e ⊢
   cases q : caps[i - n]? with
   | none => rw [q] at e; cases e
   | some j =>
    rw [q] at e
    simp only [g0z, g2h.injEq] at e ⊢
    unfold Mo at e
    split at e
    ·cases e
     rename_i e
     obtain ⟨v, q1, q2⟩ := R.fr j d e
     exact ⟨v, by rw [g0j, q1]; rfl, q2⟩
    ·cases e
 ow := fun i sl e o => by rw [qO.comp i sl e] at o; cases o
 inj := fun i j sl sl' a e o => by rw [qO.comp i sl e] at o; cases o
theorem Grows.trans {H Hf H1 Hf1 H2 Hf2 : Hp} (a : Grows H Hf H1 Hf1) (b : Grows H1 Hf1 H2 Hf2) : Grows H Hf H2 Hf2 :=
 ⟨a.h.trans b.h, a.f.trans b.f, b.fh, fun c o e => by
  rcases b.new c o e with q | q | q
  ·exact a.new c o q
  ·exact .inr (.inl (a.h.free q))
  ·exact .inr (.inr q)⟩
theorem Rep.toGrows {K : W.Frag} {σ : St} {ρ : Rho} {H Hf H' Hf' : Hp} (R : Rep K H Hf σ ρ H' Hf') : Grows H Hf H' Hf' := ⟨R.s0, R.f0, R.sf, R.nf⟩
theorem Wx {γ : FG} {ft : FT} {f : FE} {d : D} {ds ys : List D} {ρ : Rho} (h : yM γ ft f (d :: ds) ρ = some ys) :
  ∃ ρ1 b, γ d ρ = some ρ1 /\ ft ρ1 = some b /\ ((b = true /\ ∃ y r, f ρ1 = some y /\ yM γ ft f ds ρ1 = some r /\ ys = y :: r) \/ (b = false /\ yM γ ft f ds ρ1 = some ys)) := by
 unfold yM at h
 cases e1 : γ d ρ with
 | none => rw [e1] at h; cases h
 | some ρ1 =>
  rw [e1] at h
  simp only [g0a] at h
  cases e2 : ft ρ1 with
  | none => rw [e2] at h; cases h
  | some b =>
   rw [e2] at h
   simp only [g0a] at h
   refine ⟨ρ1, b, rfl, e2, ?_⟩
   cases b with
   | false => exact .inr ⟨rfl, by simpa using h⟩
   | true =>
    simp only [if_true] at h
    cases e3 : f ρ1 with
    | none => rw [e3] at h; cases h
    | some y =>
     rw [e3] at h
     simp only [g0a] at h
     cases e4 : yM γ ft f ds ρ1 with
     | none => rw [e4] at h; cases h
     | some r => rw [e4] at h; cases h; exact .inl ⟨rfl, y, r, rfl, rfl, rfl⟩
theorem Xr {tg elt iter : Expr} {ifs : List Expr} {pos : Pos} {γ : FG} {ft : FT} {f : FE} {pins : List (Addr × Obj)} {s₂ : Shared} {σ : St} {H₂ Hf₂ H₀ Hf₀ : Hp} {ρ : Rho} {ds ys : List D} {J : It} {fp : List Addr} {it : Addr} {tn : Nat -> Heap -> Prop} {E : Value -> Shared -> Prop}
  (hc : X.calm = true) (S : CompScope X.env.scope scope own frees) (hcap : caps.map (fun j => X.N[j]?) = frees.map some) (kn : uy γ)
  (body : ∀ cl C s H fp, DG (cxC X scope cl C (own ++ frees) s H fp) tg γ /\ DQ (cxC X scope cl C (own ++ frees) s H fp) ifs ft /\ DE (cxC X scope cl C (own ++ frees) s H fp) elt f)
  (c1 : ∀ x c, cl.lookup x = some c -> X.env.cells.lookup x = some c) (c2 : ∀ n, (n, NameKind.free) ∈ scope.names -> ∃ c, cl.lookup n = some c)
  (I : Inv X pins σ H₂ s₂) (T : Turn X.prog X.w X.K tg J fp it tn) (st : tn 0 s₂.heap) (hfp : ∀ b ∈ fp, uz X pins H₂ b) (R : Rep X.K H₀ Hf₀ σ ρ H₂ Hf₂) (wk : Walks X.K Hf₂ J ds) (hz : ds.length <= sizeLine)
  (hgo : yM γ ft f ds (uv own.length caps ρ) = some ys) {RR : Value -> Addr -> Result -> Shared -> Prop}
  (hRR : ∀ D C s' H' Hf' xs, Inv X pins σ H' s' -> (∃ m, s'.heap.Ns C m) -> uz X pins H' C -> Grows H₂ Hf₂ H' Hf' -> zP X.K Hf' ys xs -> H' D = some (.lst xs) -> Hf' D = none -> H₂ D = none -> RR (.ref D) C (.ok .next) s') :
  wpAny (model X.prog X.w) X.A (newList []) (fun acc s₃ => wpAny (model X.prog X.w) X.A (newFunctionEnv scope X.env.globals cl [] X.env.qual none .none (some X.env)) (fun cenv s₄ =>
   codeAny (model X.prog X.w) X.A (.compStart (.ListComp elt [⟨tg, iter, ifs, 0⟩] scope pos) 0 (.ref it) acc { cenv with scope := relabel scope X.env }) (RR acc cenv.locals) s₄) E s₃) E s₂ := by
 have hfo : ∀ b ∈ fp, b < s₂.heap.objs.size := fun b hb => by
  obtain ⟨o, ho, _⟩ := T.obj 0 _ st b hb
  exact Heap.lt_size ho
 refine wpAny_newObj_type (wpAny_newFunctionEnv S.nocell (by intro y hy; simp at hy) (fun h₁ hns₁ hsb₁ => ?_) S.kind)
 dsimp only at hns₁ hsb₁ ⊢
 have hC : (s₂.heap.push { cls := .type "list", dict := none, data := .seq ([] : List Value).toArray }).objs.size = s₂.heap.objs.size + 1 := by rw [Heap.size_push]
 generalize hCe : (s₂.heap.push { cls := .type "list", dict := none, data := .seq ([] : List Value).toArray }).objs.size = C at hC hns₁ hsb₁ ⊢
 obtain ⟨b1, b2, b3⟩ := body cl C s₂ H₂ fp
 have hfD : H₂ s₂.heap.objs.size = none := I.hok.fresh (g0r _)
 have IC : Inv (cxC X scope cl C (own ++ frees) s₂ H₂ fp) [] (Yv own.length caps σ) (upd H₂ s₂.heap.objs.size (.lst [])) { s₂ with heap := h₁, toks := s₂.toks + ([] : List (Str × Value)).length } :=
  CI I S hcap hfp hfo c1 c2 hC hns₁ hsb₁
 have DfD : Hf₂ s₂.heap.objs.size = none := R.sf.free hfD
 have R1 : Rep X.K (upd H₂ s₂.heap.objs.size (.lst [])) Hf₂ (Yv own.length caps σ) (uv own.length caps ρ) (upd H₂ s₂.heap.objs.size (.lst [])) Hf₂ := Kw R (R.sf.trans (zy hfD))
 have keep1 : ∀ b o, s₂.heap.get? b = some o -> h₁.get? b = some o := fun b u e => (hsb₁.2 b (by rw [hC]; exact g1g (Nat.lt_succ_of_lt (Heap.lt_size e)))).trans (Heap.get?_push_of_some _ (Heap.get?_push_of_some _ e))
 have st1 : tn 0 h₁ := T.keep 0 _ _ st fun b _ o e => keep1 b o e
 have stat : ∀ {H' : Hp}, (∀ b ∈ fp, H' b = none) -> ∀ b ∈ fp, uz (cxC X scope cl C (own ++ frees) s₂ H₂ fp) [] H' b := fun {H'} hn b hb => by
  refine ⟨hn b hb, g1g (g1c (hfo b hb) (by rw [hC]; exact g3a _)), fun z => ?_, .inl hb, fun x c e => (hfp b hb).2.2.2.2.1 x c (c1 x c e), fun p hp => by cases hp⟩
  rcases g0n.mp (I.stkSub b z) with q | q
  ·exact (hfp b hb).2.1 q
  ·exact (hfp b hb).2.2.1 q
 have fp1 : ∀ b ∈ fp, (upd H₂ s₂.heap.objs.size (.lst [])) b = none := fun b hb => by
  rw [zF (g1g (hfo b hb))]; exact (hfp b hb).1
 have loop : ∀ s₃ : Shared, s₃ = { s₂ with heap := h₁, toks := s₂.toks + ([] : List (Str × Value)).length } →
   codeAny (model X.prog X.w) X.A (.compLoop (.ListComp elt [⟨tg, iter, ifs, 0⟩] scope pos) 0 (.ref it) (.ref s₂.heap.objs.size) (compEnvC scope cl C X.env)) (RR (.ref s₂.heap.objs.size) C) s₃ := by
  rintro s₃ rfl
  refine Xs (fun n s' => ∃ i ρ' σ' H' Hf' zs xs r, n = ds.length - i /\ i <= ds.length /\ Inv (cxC X scope cl C (own ++ frees) s₂ H₂ fp) [] σ' H' s' /\ tn i s'.heap /\ (∀ b ∈ fp, H' b = none) /\ Rep X.K H' Hf' σ' ρ' H' Hf' /\ qO ρ' ∧
   yM γ ft f (ds.drop i) ρ' = some r /\ zs ++ r = ys /\ zP X.K Hf' zs xs /\ zs.length <= i /\ H' s₂.heap.objs.size = some (.lst xs) /\ Hf' s₂.heap.objs.size = none /\ Grows H₂ Hf₂ H' Hf') ?_ ds.length
   ⟨0, _, _, _, _, [], [], ys, by simp, g2e _, IC, st1, fp1, R1, qO.comp, by simpa using hgo, rfl, .nil, by simp, zq, DfD, ⟨zy hfD, zx, R1.sf, fun b o e => .inl e⟩⟩
  rintro n s' ⟨i, ρ', σ', H', Hf', zs, xs, r, rfl, hi, I', st', fr', R', no', go', hys, hxs, hzl, hD', hfD', gr'⟩
  obtain ⟨w1, w2⟩ := wk H' Hf' gr'.f R'.sf i
  by_cases hil : i < ds.length
  ·have hd : ds[i]? = some ds[i] := g1i hil
   obtain ⟨go, yld⟩ := w1 _ hd
   rw [g2l hil] at go'
   obtain ⟨ρ1, b, eg, et, hb⟩ := Wx go'
   refine wpAny_mono (T.item (cxC X scope cl C (own ++ frees) s₂ H₂ fp) rfl rfl rfl hc i [] s' σ' H' (fun _ _ => False) I' (stat fr') st' go) (fun rv s4 ⟨u, hr, h4⟩ => ?_) fun _ _ z => z
   subst hr
   refine wpAny_mono h4 (fun _ s5 ⟨x, H5, I5, r5, y5, st5, fr5⟩ => ?_) fun _ _ z => z
   obtain ⟨Hf5, gr5, hx5⟩ := yld x H5 y5
   have R5 : Rep X.K H' Hf' σ' ρ' H5 Hf5 := R'.grows gr5
   have I5' := I5.pinned (stat fr5) (T.obj _ _ st5)
   refine wpAny_mono (b1 _ s5 σ' H5 x u _ I5' r5 ⟨H', Hf', ρ', Hf5, ds[i], ρ1, R5, hx5, eg, fun σ6 H6 Hf6 R6 t6 => (⟨Hf6, R6, t6⟩ : ∃ Hf6, Rep X.K H' Hf' σ6 ρ1 H6 Hf6 /\ yi Hf5 Hf6)⟩) (fun _ s6 h6 => ?_) fun _ _ z => z
   obtain ⟨σ6, H6, I6, Hf6, R6, t6⟩ := h6
   refine wpAny_mono (b2 _ s6 σ6 H6 (fun b' H7 => b' = b /\ ∃ Hf7, Rep X.K H' Hf' σ6 ρ1 H7 Hf7) I6 ⟨H', Hf', ρ1, Hf6, b, R6, et, fun H7 Hf7 R7 s7 t7 => ⟨rfl, Hf7, R7⟩⟩) (fun ok s7 h7 => ?_) fun _ _ z => z
   obtain ⟨H7, I7, rfl, Hf7, R7⟩ := h7
   have no1 := kn _ _ _ eg no'
   have hm : ds.length - (i + 1) < ds.length - i := by omega
   rcases hb with ⟨rfl, y, r', ef, er, rfl⟩ | ⟨rfl, er⟩
   ·rw [if_pos rfl]
    refine wpAny_mono (b3 _ s7 σ6 H7 (fun v H8 => ∃ Hf8, Rep X.K H' Hf' σ6 ρ1 H8 Hf8 /\ Has X.K Hf8 y v) I7 ⟨H', Hf', ρ1, Hf7, y, R7, ef, fun v H8 Hf8 R8 s8 t8 h8 => ⟨Hf8, R8, h8⟩⟩) (fun u' s8 h8 => ?_) fun _ _ z => z
    obtain ⟨v, H8, I8, r8, Hf8, R8, h8⟩ := h8
    have hD8 : H8 s₂.heap.objs.size = some (.lst xs) := R8.s0 _ _ hD'
    have hfD8 : Hf8 s₂.heap.objs.size = none := by
     cases z : Hf8 s₂.heap.objs.size with
     | none => rfl
     | some o =>
      rcases R8.nf _ _ z with q | q | ⟨ks, rfl⟩
      ·rw [hfD'] at q; cases q
      ·rw [hD'] at q; cases q
      ·have := hD8.symm.trans (R8.sf _ _ z); cases this
    have hsd : yi Hf8 (upd H8 s₂.heap.objs.size (.lst (xs ++ [v]))) := fun b o e => by rw [zF (ya e hfD8)]; exact R8.sf b o e
    refine wpAny_mono (Y6 (X := cxC X scope cl C (own ++ frees) s₂ H₂ fp) _ s8 σ6 H8 (.ref s₂.heap.objs.size) [v] _ [u'] (fun _ H9 => H9 = upd H8 s₂.heap.objs.size (.lst (xs ++ [v]))) I8 rfl (.cons r8 .nil) ⟨_, xs, v, rfl, rfl, hD8, by have := hxs.length; omega, rfl⟩) (fun u9 s9 h9 => ?_) fun _ _ z => z
    obtain ⟨v9, H9, I9, _, rfl⟩ := h9
    refine ⟨_, hm, i + 1, ρ1, σ6, _, Hf8, zs ++ [y], xs ++ [v], r', rfl, hil, I9.unpinned, T.keep _ _ _ st5 fun b hb o e => (I9.pin (b, o) (g0q _ (g0q _ (xy hb e)))).1, fun b hb => ?_, R8.rebase no1 hsd, no1, er, by rw [g1b]; exact hys, (hxs.mono R8.f0).append (.cons h8 .nil), by simp; omega, zq, hfD8, ?_⟩
    ·obtain ⟨o, e, d⟩ := T.obj _ _ st5 b hb
     exact (I9.pin (b, o) (g0q _ (g0q _ (xy hb e)))).2.1
    ·have g8 := gr'.trans R8.toGrows
     exact ⟨fun b o e => by rw [zF (ya e hfD)]; exact g8.h b o e, g8.f, hsd, g8.new⟩
   ·rw [if_neg g1n]
    refine ⟨_, hm, i + 1, ρ1, σ6, _, Hf7, zs, xs, r, rfl, hil, I7.unpinned, T.keep _ _ _ st5 fun b hb o e => (I7.pin (b, o) (g0q _ (g0q _ (xy hb e)))).1, fun b hb => ?_, R7.rebase no1 R7.sf, no1, er, hys, hxs.mono R7.f0, by omega, R7.s0 _ _ hD', ?_, gr'.trans R7.toGrows⟩
    ·obtain ⟨o, e, d⟩ := T.obj _ _ st5 b hb
     exact (I7.pin (b, o) (g0q _ (g0q _ (xy hb e)))).2.1
    ·cases z : Hf7 s₂.heap.objs.size with
     | none => rfl
     | some o =>
      rcases R7.nf _ _ z with q | q | ⟨ks, rfl⟩
      ·rw [hfD'] at q; cases q
      ·rw [hD'] at q; cases q
      ·have := (R7.s0 _ _ hD').symm.trans (R7.sf _ _ z); cases this
  ·have : ds.drop i = [] := List.drop_eq_nil_of_le (by omega)
   rw [this] at go'
   cases go'
   rw [g0t] at hys
   subst hys
   refine wpAny_mono (T.done (cxC X scope cl C (own ++ frees) s₂ H₂ fp) rfl rfl rfl hc i [] s' σ' H' (fun _ _ => False) I' (stat fr') st' (w2 (by omega))) (fun rv s4 ⟨hr, I4⟩ => ?_) fun _ _ z => z
   subst hr
   obtain ⟨m, hn, _⟩ := I4.loc
   have hch : ∀ b ∈ fp, (b ∈ X.ex \/ X.s₀.heap.objs.size <= b) /\ b ≠ X.env.locals /\ (∀ x c, X.env.cells.lookup x = some c -> c ≠ b) /\ ∀ p ∈ X.pn ++ pins, p.1 ≠ b := fun b hb => ⟨(hfp b hb).2.2.2.1, (hfp b hb).2.1, (hfp b hb).2.2.2.2.1, (hfp b hb).2.2.2.2.2⟩
   exact hRR _ C s4 H' Hf' xs (I.call' (s' := s4) I4.os I4.base I4.hok I4.bare hch) ⟨m, hn⟩ (I.fpOk (by rw [hC]; exact g3a _) I4.free) gr' hxs hD' hfD' hfD
 exact codeAny_compStart_list (loop _ rfl) (T.self _ 0 _ _ _ st1 (loop _ rfl))
theorem ZR {n : Nat} {fi : FA} {γ : FG} {ft : FT} {f : FE} {ρ : Rho} {ys : List D} (h : xt n caps fi γ ft f ρ = some ys) : ∃ ds, fi ρ = some ds /\ ds.length <= sizeLine /\ yM γ ft f ds (uv n caps ρ) = some ys := by
 obtain ⟨ds, e1, e2⟩ := yp h
 split at e2
 ·exact ⟨ds, e1, by assumption, e2⟩
 ·cases e2
theorem JE {pins : List (Addr × Obj)} {σ : St} {H : Hp} {s : Shared} (I : Inv X pins σ H s) (S : CompScope X.env.scope scope own frees) : ∃ cl, closureFor scope X.env = pure cl /\ (∀ x c, cl.lookup x = some c -> X.env.cells.lookup x = some c) /\ ∀ n, (n, NameKind.free) ∈ scope.names -> ∃ c, cl.lookup n = some c := by
 obtain ⟨cl, e1, e2, _, e4⟩ := jq (env := X.env) scope.names [] (fun n hn => I.ok.has n (S.free (n, .free) hn rfl)) (fun x c e => by simp at e)
 exact ⟨cl, Yw e1, e2, e4⟩
theorem xM {tg elt iter : Expr} {ifs : List Expr} {pos : Pos} {fi : FA} {γ : FG} {ft : FT} {f : FE} (hc : X.calm = true) (S : CompScope X.env.scope scope own frees) (hcap : caps.map (fun j => X.N[j]?) = frees.map some) (kn : uy γ) (hi : DI X tg iter fi)
  (body : ∀ cl C s H fp, DG (cxC X scope cl C (own ++ frees) s H fp) tg γ /\ DQ (cxC X scope cl C (own ++ frees) s H fp) ifs ft /\ DE (cxC X scope cl C (own ++ frees) s H fp) elt f)
  (hs : ∀ x, foldedSetIterable iter X.env x = pure x := by intro _; rfl) : DN X (.ListComp elt [⟨tg, iter, ifs, 0⟩] scope pos) (xt own.length caps fi γ ft f) := by
 intro pins s σ H Q I h
 obtain ⟨H₀, Hf₀, ρ, Hf, ys, R, q, k⟩ := h
 obtain ⟨ds, e1, hz, e2⟩ := ZR q
 obtain ⟨cl, hcl, c1, c2⟩ := JE I S
 rw [eval_ListComp]
 refine wpAny_comprehension_free (use := none) rfl hs hcl S.kind S.loc (thn (hi pins s σ H (fun J H' => ∃ Hf', Rep X.K H₀ Hf₀ σ ρ H' Hf' /\ yi H H' /\ yi Hf Hf' /\ Walks X.K Hf' J ds) I ⟨H₀, Hf₀, ρ, Hf, ds, R, e1, fun J H' Hf' R' s' t' wk => ⟨Hf', R', s', t', wk⟩⟩) fun v s1 h1 => thn h1 fun itv s2 h2 => ?_)
 obtain ⟨it, fp, tn, J, H2, rfl, I2, T, st2, f2, Hf2, R2, s2', t2', wk⟩ := h2
 refine Xr (RR := compPost (model X.prog X.w) X.A X.xe none (EP X pins σ Q)) hc S hcap kn body c1 c2 I2 T st2 f2 R2 wk hz e2 ?_
 intro D C s' H' Hf' xs I' hns hfC gr hxs hD hfD hD0
 obtain ⟨m, hn⟩ := hns
 refine ⟨m, hn, fun h' hsb => ⟨.ref D, H', ?_, rfl, ?_⟩⟩
 ·obtain ⟨f0, f1, f2, f3, f4, f5⟩ := hfC
  exact I'.turned (t' := s'.toks) (fun b o hb e => (hsb.2 b hb).trans e) f0 f1 f3 f4 f5
 ·exact k D xs H' Hf' (R2.grows gr) (s2'.trans gr.h) (t2'.trans gr.f) hxs hD hfD (s2'.free hD0)
theorem Zr {tg elt iter : Expr} {ifs : List Expr} {y : Str} {py pos spos : Pos} {fi : FA} {γ : FG} {ft : FT} {f : FE} (hc : X.calm = true) (S : CompScope X.env.scope scope own frees) (hcap : caps.map (fun j => X.N[j]?) = frees.map some) (kn : uy γ) (hi : DI X tg iter fi)
  (body : ∀ cl C s H fp, DG (cxC X scope cl C (own ++ frees) s H fp) tg γ /\ DQ (cxC X scope cl C (own ++ frees) s H fp) ifs ft /\ DE (cxC X scope cl C (own ++ frees) s H fp) elt f)
  (hsw : swapsWith (.ListComp elt [⟨tg, iter, ifs, 0⟩] scope pos) (some (.Name y py)) spos.line X.env = pure true) (i : Nat) (hN : X.N.Nodup) (hiN : X.N[i]? = some y) (hy : X.env.scope.names.lookup y = some .local)
  (hs : ∀ x, foldedSetIterable iter X.env x = pure x) : PS X (.Assign [.Name y py] (.ListComp elt [⟨tg, iter, ifs, 0⟩] scope pos) spos) (fun D' σ H => ∃ H₀ Hf₀ ρ Hf ys, Rep X.K H₀ Hf₀ σ ρ H Hf /\ xt own.length caps fi γ ft f ρ = some ys ∧
   ∀ a xs H' Hf', Rep X.K H₀ Hf₀ σ ρ H' Hf' -> yi H H' -> yi Hf Hf' -> zP X.K Hf' ys xs -> H' a = some (.lst xs) -> Hf' a = none -> H a = none -> D'.nx (σ.set i (some (.ref a))) H') := by
 intro pins s σ H D' I h
 obtain ⟨H₀, Hf₀, ρ, Hf, ys, R, q, k⟩ := h
 obtain ⟨ds, e1, hz, e2⟩ := ZR q
 obtain ⟨cl, hcl, c1, c2⟩ := JE I S
 rw [exec_Assign_Name_used _ _ _ _ hsw]
 refine wpAny_bind (wpAny_standAt (wpAny_bind ?_))
 show wpAny _ X.A (do let _ ← comprehension (.ListComp elt [⟨tg, iter, ifs, 0⟩] scope pos) scope X.env _ (newList []) false (eval iter X.env) (some (assign (.Name y py) X.env))) _ _ s
 refine wpAny_bind (wpAny_mono (wpAny_comprehension_free (use := some (assign (.Name y py) X.env)) (Q := fun _ s' => SP X pins D' .next s') rfl hs hcl S.kind S.loc
  (thn (hi pins s σ H (fun J H' => ∃ Hf', Rep X.K H₀ Hf₀ σ ρ H' Hf' /\ yi H H' /\ yi Hf Hf' /\ Walks X.K Hf' J ds) I ⟨H₀, Hf₀, ρ, Hf, ds, R, e1, fun J H' Hf' R' s' t' wk => ⟨Hf', R', s', t', wk⟩⟩) fun v s1 h1 => thn h1 fun itv s2 h2 => ?_)) (fun _ s' hq => wpAny_pure (wpAny_pure hq)) fun _ _ e => e)
 obtain ⟨it, fp, tn, J, H2, rfl, I2, T, st2, f2, Hf2, R2, s2', t2', wk⟩ := h2
 refine Xr (RR := compPost (model X.prog X.w) X.A X.xe (some (assign (.Name y py) X.env)) (fun _ s' => SP X pins D' .next s')) hc S hcap kn body c1 c2 I2 T st2 f2 R2 wk hz e2 ?_
 intro D C s' H' Hf' xs I' hns hfC gr hxs hD hfD hD0
 obtain ⟨m, hn⟩ := hns
 show wpAny _ X.A (assign (.Name y py) X.env (.ref D)) _ _ _
 refine wpAny_assign_Name (YM I' hN hiN (.inl hy) (show yV (.ref D) (.ref D) from rfl) (fun s'' I'' hsb => ?_) (.inr hy))
 obtain ⟨a, hsb, ha⟩ := hsb
 obtain ⟨f0, f1, f2', f3, f4, f5⟩ := hfC
 have haC : a ≠ C := by
  rcases ha with z | z
  ·rw [z]; exact Ne.symm f1
  ·exact f4 _ _ z
 refine ⟨m, hn.sameBut hsb (Ne.symm haC), fun h' hsb' => ?_⟩
 exact ⟨_, H', I''.turned (t' := s''.toks) (fun b o hb e => (hsb'.2 b hb).trans e) f0 f1 f3 f4 f5, k D xs H' Hf' (R2.grows gr) (s2'.trans gr.h) (t2'.trans gr.f) hxs hD hfD (s2'.free hD0)⟩
end
structure Draw (P : Program) (w : World) (K : W.Frag) (J : It) (fp : List Addr) (it : Addr) (tn : Nat -> Heap -> Prop) : Prop where
 mem : it ∈ fp
 obj : ∀ i h, tn i h -> ∀ b ∈ fp, ∃ o, h.get? b = some o /\ ∀ v, o.data ≠ .cell v
 keep : ∀ i h h', tn i h -> (∀ b ∈ fp, ∀ o, h.get? b = some o -> h'.get? b = some o) -> tn i h'
 item : ∀ (A : Around) (X : Cx), X.prog = P -> X.w = w -> X.K = K -> ∀ (i : Nat) (pins : List (Addr × Obj)) (s : Shared) (σ : St) (H : Hp) (E : Value -> Shared -> Prop), Inv X pins σ H s -> (∀ b ∈ fp, uz X pins H b) -> tn i s.heap -> J.go i H →
  wpAny (model P w) A (Builtin.SmallTypes.nextOf (.ref it)) (fun u s2 => ∃ x H', Inv X pins σ H' s2 /\ yV x u /\ J.yld i H x H' /\ tn (i + 1) s2.heap /\ ∀ b ∈ fp, H' b = none) E s
 fin : ∀ (A : Around) (X : Cx), X.prog = P -> X.w = w -> X.K = K -> A.handled = none -> ∀ (i : Nat) (pins : List (Addr × Obj)) (s : Shared) (σ : St) (H : Hp) (Q : Value -> Shared -> Prop), Inv X pins σ H s -> (∀ b ∈ fp, uz X pins H b) -> tn i s.heap -> J.stop i H →
  wpAny (model P w) A (Builtin.SmallTypes.nextOf (.ref it)) Q (fun e s2 => Inv X pins σ H s2 /\ ∃ a o, e = .ref a /\ s2.heap.get? a = some o /\ o.cls = .type "StopIteration") s
section
variable {prog : Program} {w : World} {A : Around} {E : Value -> Shared -> Prop} {s : Shared}
theorem jc {it l : Addr} {i : Nat} {items : Array Value} {x : Value} {Q : Value -> Shared -> Prop} (hit : s.heap.IsTupleIter it l i) (hl : s.heap.IsTuple l items) (hx : items[i]? = some x)
  (hQ : ∀ h', h'.IsTupleIter it l (i + 1) -> Heap.SameBut it s.heap h' -> Q x { s with heap := h' }) : wpAny (model prog w) A (Builtin.SmallTypes.nextOf (.ref it)) Q E s := by
 obtain ⟨o, ho, hc, hd⟩ := id hit
 obtain ⟨ol, hol, _, nl, hdl⟩ := hl
 unfold Builtin.SmallTypes.nextOf
 refine wpAny_bind (wpAny_callSpecial?_slot (name := Str.ofString "__next__") hit.typeIs F.slot_tuple_iterator_next
  (wpAny_call_entry F.slot_tuple_iterator_next hit.typeIs F.entry_tuple_iterator_next ?_ (F.args_tuple_iterator_next_1 _)))
 show wpAny _ _ (field (.ref it) 0 >>= _) _ _ s
 refine wpAny_bind (wpAny_field ho hd (x := .ref l) rfl ?_)
 show wpAny _ _ (if (Value.ref l == Value.none) = true then _ else _) _ _ s
 rw [if_neg (show ¬ ((Value.ref l == Value.none) = true) from g1n)]
 show wpAny _ _ (field (.ref it) 1 >>= _) _ _ s
 refine wpAny_bind (wpAny_field ho hd (x := .int i 0) rfl ?_)
 show wpAny _ _ (seqItems? (.ref l) >>= _) _ _ s
 refine wpAny_bind (wpAny_seqItems hol hdl ?_)
 simp only [Int.toNat_natCast, hx]
 refine wpAny_bind (wpAny_setField ho hd (by simp) (wpAny_pure ⟨x, rfl, wpAny_pure (hQ _ ?_ (Heap.SameBut.update ..))⟩))
 exact ⟨_, Heap.get?_update_self _ ho (Obj.isFreed_of_fields (Obj.data_mapFields hd _)), (Obj.cls_mapFields ..).trans hc, by rw [Obj.data_mapFields hd]; simp [rawInt]⟩
theorem jP {it l : Addr} {i : Nat} {items : Array Value} {Q : Value -> Shared -> Prop} (hh : A.handled = none) (hit : s.heap.IsTupleIter it l i) (hl : s.heap.IsTuple l items) (hx : items[i]? = none)
  (hE : ∀ h' e, Heap.ExtBut it s.heap h' -> (∃ o, h'.get? e = some o /\ o.cls = .type "StopIteration") -> E (.ref e) { s with heap := h' }) : wpAny (model prog w) A (Builtin.SmallTypes.nextOf (.ref it)) Q E s := by
 obtain ⟨o, ho, hc, hd⟩ := id hit
 obtain ⟨ol, hol, _, nl, hdl⟩ := hl
 unfold Builtin.SmallTypes.nextOf
 refine wpAny_bind (wpAny_callSpecial?_slot (name := Str.ofString "__next__") hit.typeIs F.slot_tuple_iterator_next
  (wpAny_call_entry F.slot_tuple_iterator_next hit.typeIs F.entry_tuple_iterator_next ?_ (F.args_tuple_iterator_next_1 _)))
 show wpAny _ _ (field (.ref it) 0 >>= _) _ _ s
 refine wpAny_bind (wpAny_field ho hd (x := .ref l) rfl ?_)
 show wpAny _ _ (if (Value.ref l == Value.none) = true then _ else _) _ _ s
 rw [if_neg (show ¬ ((Value.ref l == Value.none) = true) from g1n)]
 show wpAny _ _ (field (.ref it) 1 >>= _) _ _ s
 refine wpAny_bind (wpAny_field ho hd (x := .int i 0) rfl ?_)
 show wpAny _ _ (seqItems? (.ref l) >>= _) _ _ s
 refine wpAny_bind (wpAny_seqItems hol hdl ?_)
 simp only [Int.toNat_natCast, hx]
 refine wpAny_bind (wpAny_rule (wpAny_bind (wpAny_setField ho hd (by simp) ?_)))
 show wpAny _ _ (newExc (.type "StopIteration") [] >>= _) _ _ _
 refine wpAny_bind ?_
 simp only [newExc, newTuple]
 refine wpAny_bind (wpAny_newObj_type ?_ (by size_fits))
 refine wpAny_bind (m := firstArgMember _ _) (wpAny_of_eq (a := Value.none) (by first | rfl | (simp only [firstArgMember]; rfl)) ?_)
 refine wpAny_newObj_type ?_ (by size_fits)
 simp only [raiseNew]
 refine wpAny_bind (wpAny_handled ?_)
 first | rw [show A.in1.handled = none from hh] | rw [hh]
 refine wpAny_bind (wpAny_pure (wpAny_throw ?_))
 exact hE _ _ (((Heap.SameBut.update ..).extBut.push _).push _) ⟨_, Heap.get?_push_size _ rfl, rfl⟩
end
theorem Jn {P : Program} {w : World} {K : W.Frag} (a it : Addr) : Draw P w K (Itl K a) [it] it (fun i h => h.IsListIter it a i) where
 mem := by simp
 obj := fun i h st b hb => by
  have e : b = it := by simpa using hb
  subst e
  obtain ⟨o, e, c, d⟩ := st
  exact ⟨o, e, fun v z => by rw [d] at z; cases z⟩
 keep := fun i h h' st k => st.at fun o e => k it (by simp) o e
 item := by
  intro A X hP hw hK i pins s σ H E I hf st hg
  subst hP hw hK
  obtain ⟨xs, x, hq, hx⟩ := hg
  obtain ⟨its, rv, p, hz⟩ := I.list hq
  obtain ⟨u, hu, ru⟩ := rv.get hx
  obtain ⟨f0, f1, f2, f3, f4, f5⟩ := hf it (by simp)
  refine wpAny_nextOf_list_item st p.isList (x := u) (by simpa using hu) fun h' st' sb => ?_
  have I1 : Inv X pins σ H { s with heap := h' } := I.turned (t' := s.toks) (fun b o hb e => (sb.2 b hb).trans e) f0 f1 f3 f4 f5
  exact ⟨x, H, I1, ru, ⟨rfl, fun ys hy => by rw [I.list_inj hy hq]; exact hx⟩, st', fun b hb => (hf b hb).1⟩
 fin := by
  intro A X hP hw hK hh i pins s σ H Q I hf st hg
  subst hP hw hK
  obtain ⟨xs, hq, hx⟩ := hg
  obtain ⟨its, rv, p, hz⟩ := I.list hq
  obtain ⟨f0, f1, f2, f3, f4, f5⟩ := hf it (by simp)
  have hl := rv.length
  refine wpAny_nextOf_list_end hh st p.isList (by simp; omega) fun h' e eb ⟨o, ho, hc⟩ => ⟨I.turned (t' := s.toks) (fun b o hb e => eb b o hb e) f0 f1 f3 f4 f5, e, o, rfl, ho, hc⟩
theorem UE {P : Program} {w : World} {K : W.Frag} (a it : Addr) : Draw P w K (Itt K a) [it] it (fun i h => h.IsTupleIter it a i) where
 mem := by simp
 obj := fun i h st b hb => by
  have e : b = it := by simpa using hb
  subst e
  obtain ⟨o, e, c, d⟩ := st
  exact ⟨o, e, fun v z => by rw [d] at z; cases z⟩
 keep := fun i h h' st k => st.at fun o e => k it (by simp) o e
 item := by
  intro A X hP hw hK i pins s σ H E I hf st hg
  subst hP hw hK
  obtain ⟨xs, x, hq, hx⟩ := hg
  obtain ⟨its, rv, p, hz⟩ := I.tuple hq
  obtain ⟨u, hu, ru⟩ := rv.get hx
  obtain ⟨f0, f1, f2, f3, f4, f5⟩ := hf it (by simp)
  refine jc st (show s.heap.IsTuple a its.toArray from p) (x := u) (by simpa using hu) fun h' st' sb => ?_
  have I1 : Inv X pins σ H { s with heap := h' } := I.turned (t' := s.toks) (fun b o hb e => (sb.2 b hb).trans e) f0 f1 f3 f4 f5
  exact ⟨x, H, I1, ru, ⟨rfl, fun ys hy => by rw [I.tuple_inj hy hq]; exact hx⟩, st', fun b hb => (hf b hb).1⟩
 fin := by
  intro A X hP hw hK hh i pins s σ H Q I hf st hg
  subst hP hw hK
  obtain ⟨xs, hq, hx⟩ := hg
  obtain ⟨its, rv, p, hz⟩ := I.tuple hq
  obtain ⟨f0, f1, f2, f3, f4, f5⟩ := hf it (by simp)
  have hl := rv.length
  exact jP hh st (show s.heap.IsTuple a its.toArray from p) (by simp; omega) fun h' e eb ⟨o, ho, hc⟩ => ⟨I.turned (t' := s.toks) (fun b o hb e => eb b o hb e) f0 f1 f3 f4 f5, e, o, rfl, ho, hc⟩
def ItE (J : It) : It := ⟨J.go, fun i H x H' => ∃ y H1 p, J.yld i H y H1 /\ H1 p = none /\ x = .ref p /\ H' = upd H1 p (.tup [.int i, y]), J.stop⟩
theorem uz.more {X : Cx} {pins : List (Addr × Obj)} {H : Hp} {b c : Addr} {h : Heap} (f : uz X pins H b) (hne : b ≠ c) : uz X (pins ++ jD [c] h) H b := by
 obtain ⟨f0, f1, f2, f3, f4, f5⟩ := f
 refine ⟨f0, f1, f2, f3, f4, fun p hp z => ?_⟩
 rcases g1l.mp hp with q | q
 ·exact f5 p (g2d _ q) z
 ·rcases g1l.mp q with q | q
  ·exact f5 p (g0q _ q) z
  ·have := (kd q).1
   have e : p.1 = c := by simpa using this
   exact hne (z ▸ e)
theorem uz.none' {X : Cx} {pins : List (Addr × Obj)} {H H' : Hp} {b : Addr} (f : uz X pins H b) (h : H' b = none) : uz X pins H' b := ⟨h, f.2⟩
theorem UZ {P : Program} {w : World} {K : W.Frag} {elts : List Expr} {kx : Nat} {tp : Pos} {J : It} {fp : List Addr} {it e : Addr} {tn : Nat -> Heap -> Prop} (T : Draw P w K J fp it tn) (hne : ∀ b ∈ fp, b ≠ e) :
    Turn P w K (.Tuple elts kx tp) (ItE J) (e :: fp) e (fun i h => tn i h /\ ∃ old, IsEnum h e it i old) where
  mem := g0l
  obj := fun i h st b hb => by
    rcases g0n.mp hb with rfl | hb
    · obtain ⟨_, old, he⟩ := st
      exact ⟨_, he, fun v z => by cases z⟩
    · exact T.obj i h st.1 b hb
  keep := fun i h h' st k => ⟨T.keep i h h' st.1 fun b hb o e => k b (g0o _ hb) o e, by obtain ⟨_, old, he⟩ := st; exact ⟨old, k e g0l _ he⟩⟩
  item := by
    intro X hP hw hK hc i pins s σ H E I hf st hg
    subst hP hw hK
    obtain ⟨st, old, he⟩ := st
    have hT : s.TypeIs (.ref e) "enumerate" := ⟨_, he, rfl⟩
    have fe := hf e g0l
    obtain ⟨f0, f1, f2, f3, f4, f5⟩ := id fe
    unfold pyNext
    refine wpAny_bind (wpAny_attempt (wpAny_callSpecial?_slot (name := Str.ofString "__next__") hT F.slot_enumerate_next
      (wpAny_call_entry F.slot_enumerate_next hT F.entry_enumerate_next ?_ (F.args_enumerate_next_1 _))))
    show wpAny _ _ (field (.ref e) 2 >>= _) _ _ _
    refine wpAny_bind (wpAny_field he rfl (x := .ref it) rfl ?_)
    have I0 := I.pinned (fp := [e]) (fun b hb => by have z : b = e := by simpa using hb
                                                    subst z; exact fe) (fun b hb => by have z : b = e := by simpa using hb
                                                                                       subst z; exact ⟨_, he, fun v z => by cases z⟩)
    refine wpAny_bind (wpAny_mono (T.item _ X rfl rfl rfl i _ s σ H _ I0 (fun b hb => uz.more (hf b (g0o _ hb)) (hne b hb)) st hg) (fun u s1 h1 => ?_) fun _ _ z => z)
    obtain ⟨x, H1, I1, rx, yl, st1, fr1⟩ := h1
    obtain ⟨he₁, f0', _⟩ := I1.pin _ (g0q _ (g0q _ (xy (fp := [e]) (by simp) he)))
    have he₁ : IsEnum s1.heap e it i old := he₁
    have f0' : H1 e = none := f0'
    have I1 := I1.unpinned
    obtain ⟨hp, g, d, tk, os⟩ := s1
    show wpAny _ _ (field (.ref e) 3 >>= _) _ _ _
    refine wpAny_bind (wpAny_field he₁ rfl (x := rawInt i) rfl ?_)
    show wpAny _ _ (field (.ref e) 4 >>= _) _ _ _
    refine wpAny_bind (wpAny_field he₁ rfl (x := .none) rfl ?_)
    show wpAny _ _ (mkInt i >>= _) _ _ _
    refine wpAny_bind (wpAny_mkInt ?_)
    show wpAny _ _ (setField (.ref e) 3 (rawInt ((i : Int) + 1)) >>= _) _ _ _
    refine wpAny_bind (wpAny_setField_rec he₁ (by simp) fun h₂ he₂ hs₂ => ?_)
    replace hs₂ : Heap.SameBut e hp h₂ := hs₂
    replace he₂ : IsEnum h₂ e it ((i : Int) + 1) old := he₂
    show wpAny _ _ (setField (.ref e) 4 .none >>= _) _ _ ⟨h₂, g, d, tk + 1, os⟩
    refine wpAny_bind (wpAny_setField_rec he₂ (by simp) fun h₃ he₃ hs₃ => ?_)
    replace hs₃ : Heap.SameBut e h₂ h₃ := hs₃
    replace he₃ : IsEnum h₃ e it ((i : Int) + 1) old := he₃
    have I3 : Inv X pins σ H1 ⟨h₃, g, d, tk + 1, os⟩ := I1.turned (t' := tk + 1) (fun b o hb q => (hs₃.2 b hb).trans ((hs₂.2 b hb).trans q)) f0' f1 f3 f4 f5
    show wpAny _ _ (newTuple [.int i tk, u] >>= _) _ _ ⟨h₃, g, d, tk + 1, os⟩
    refine wpAny_bind (wpAny_newTuple ?_)
    have he₄ : IsEnum (h₃.push { cls := .type "tuple", data := .seq #[.int i tk, u] }) e it ((i : Int) + 1) old := Heap.get?_push_of_some _ he₃
    have hf4 : H1 h₃.objs.size = none := I3.hok.fresh (g0r _)
    have I4 : Inv X pins σ (upd H1 h₃.objs.size (.tup [.int i, x])) ⟨h₃.push { cls := .type "tuple", data := .seq #[.int i tk, u] }, g, d, tk + 1, os⟩ :=
      I3.laid (t' := tk + 1) (fun b u e => Heap.get?_push_of_some _ e) (g0r _) ⟨by show 2 <= sizeLine; decide, [.int i tk, u], .cons ⟨tk, rfl⟩ (.cons rx .nil), ⟨_, Heap.get?_push_size _ rfl, rfl, _, rfl⟩⟩
    have hel : e < h₃.objs.size := Heap.lt_size he₃
    have fe4 : (upd H1 h₃.objs.size (.tup [.int i, x])) e = none := by rw [zF (g1g hel)]; exact f0'
    generalize hh₄ : h₃.push { cls := .type "tuple", data := .seq #[.int i tk, u] } = h₄ at he₄ I4
    have st4 : tn (i + 1) h₄ := T.keep _ _ _ st1 fun b hb o q => by rw [<- hh₄]; exact Heap.get?_push_of_some _ ((hs₃.2 b (hne b hb)).trans ((hs₂.2 b (hne b hb)).trans q))
    show wpAny _ _ (Builtin.SmallTypes.ownedTupleIsFree (.ref e) >>= _) _ _ ⟨h₄, g, d, tk + 1, os⟩
    refine wpAny_bind ?_
    unfold Builtin.SmallTypes.ownedTupleIsFree
    refine wpAny_bind (wpAny_field he₄ rfl (x := .none) rfl (wpAny_pure ?_))
    simp only [if_true]
    refine wpAny_bind (wpAny_rule ?_)
    refine wpAny_bind (wpAny_field he₄ rfl (x := old) rfl ?_)
    refine wpAny_bind (wpAny_setField_rec he₄ (by simp) fun h₅ he₅ hs₅ => ?_)
    replace hs₅ : Heap.SameBut e h₄ h₅ := hs₅
    replace he₅ : IsEnum h₅ e it ((i : Int) + 1) u := he₅
    show wpAny _ _ (Builtin.SmallTypes.ownedTupleHandOut (.ref e) (.ref h₃.objs.size) >>= _) _ _ ⟨h₅, g, d, tk + 1, os⟩
    refine wpAny_bind ?_
    unfold Builtin.SmallTypes.ownedTupleHandOut
    refine wpAny_bind (wpAny_setField_rec he₅ (by simp) fun h₆ he₆ hs₆ => ?_)
    replace hs₆ : Heap.SameBut e h₅ h₆ := hs₆
    replace he₆ : IsEnumOut h₆ e it ((i : Int) + 1) u h₃.objs.size := he₆
    refine wpAny_setField_rec he₆ (by simp) fun h₇ he₇ hs₇ => ?_
    replace hs₇ : Heap.SameBut e h₆ h₇ := hs₇
    replace he₇ : IsEnumOut h₇ e it ((i : Int) + 1) u h₃.objs.size := he₇
    refine wpAny_bind (wpAny_letGo (wpAny_pure ⟨_, rfl, wpAny_pure ⟨_, rfl, ?_⟩⟩))
    unfold letOwnedTupleGo
    refine wpAny_bind (wpAny_load he₇ ?_)
    show wpAny _ _ (if (["enumerate", "zip", "dict_itemiterator", "dict_reverseitemiterator", "odict_iterator", "itertools.zip_longest", "itertools.pairwise"].contains "enumerate" &&
      (#[rawInt h₃.objs.size, .bool false, .ref it, rawInt ((i : Int) + 1), .none, u] : Array Value)[0]? == some (rawInt h₃.objs.size)) = true then _ else _) _ _ _
    rw [if_pos (by simp)]
    refine wpAny_bind (wpAny_rule ?_)
    show wpAny _ _ (setField (.ref e) 0 .none) _ _ _
    refine wpAny_setField_rec he₇ (by simp) fun h₈ he₈ hs₈ => ?_
    replace hs₈ : Heap.SameBut e h₇ h₈ := hs₈
    replace he₈ : IsEnum h₈ e it ((i : Int) + 1) u := he₈
    have k8 : ∀ b o, b ≠ e -> h₄.get? b = some o -> h₈.get? b = some o := fun b o hb q => (hs₈.2 b hb).trans ((hs₇.2 b hb).trans ((hs₆.2 b hb).trans ((hs₅.2 b hb).trans q)))
    refine ⟨.ref h₃.objs.size, _, I4.turned (t' := tk + 1) (fun b o hb q => k8 b o hb q) fe4 f1 f3 f4 f5, rfl, ⟨x, H1, h₃.objs.size, yl, hf4, rfl, rfl⟩, ⟨T.keep _ _ _ st4 fun b hb o q => k8 b o (hne b hb) q, u, he₈⟩, fun b hb => ?_⟩
    rcases g0n.mp hb with rfl | hb
    · exact fe4
    · obtain ⟨o, q, _⟩ := T.obj _ _ st1 b hb
      have q3 : h₃.get? b = some o := (hs₃.2 b (hne b hb)).trans ((hs₂.2 b (hne b hb)).trans q)
      rw [zF (g1g (Heap.lt_size q3))]
      exact fr1 b hb
  done := by
    intro X hP hw hK hc i pins s σ H E I hf st hg
    subst hP hw hK
    obtain ⟨st, old, he⟩ := st
    have hT : s.TypeIs (.ref e) "enumerate" := ⟨_, he, rfl⟩
    unfold pyNext
    refine wpAny_bind (wpAny_attempt (wpAny_callSpecial?_slot (name := Str.ofString "__next__") hT F.slot_enumerate_next
      (wpAny_call_entry F.slot_enumerate_next hT F.entry_enumerate_next ?_ (F.args_enumerate_next_1 _))))
    show wpAny _ _ (field (.ref e) 2 >>= _) _ _ _
    refine wpAny_bind (wpAny_field he rfl (x := .ref it) rfl ?_)
    refine wpAny_bind (wpAny_mono (T.fin X.A.in1 X rfl rfl rfl (I.ok.hd hc) i pins s σ H _ I (fun b hb => hf b (g0o _ hb)) st hg) (fun u s1 z => z) fun e' s1 h1 => ?_)
    obtain ⟨I1, a, o, rfl, ho, hcl⟩ := h1
    refine wpAny_bind (wpAny_isInstance (T := "StopIteration") (b := true) ⟨o, ho, hcl⟩ isSubtype_stop ?_)
    exact wpAny_pure ⟨rfl, I1⟩
  self := fun A i s Q E st h => by
    obtain ⟨_, old, he⟩ := st
    have hT : s.TypeIs (.ref e) "enumerate" := ⟨_, he, rfl⟩
    refine wpAny_pyIter_slot hT F.slot_enumerate_iter (wpAny_call_entry F.slot_enumerate_iter hT F.entry_enumerate_iter ?_ (F.args_enumerate_iter_1 _))
    show wpAny _ _ (ret (.ref e)) _ _ s
    exact wpAny_pure ⟨_, rfl, "enumerate", _, hT, F.slot_enumerate_next.lookup, h⟩
def ItZ (J1 J2 : It) : It := ⟨fun i H => J1.go i H /\ ∀ x H1, J1.yld i H x H1 -> J2.go i H1, fun i H x H' => ∃ y1 y2 H1 H2 p, J1.yld i H y1 H1 /\ J2.yld i H1 y2 H2 /\ H2 p = none /\ x = .ref p /\ H' = upd H2 p (.tup [y1, y2]),
 fun i H => J1.stop i H \/ (J1.go i H /\ ∀ x H1, J1.yld i H x H1 -> H1 = H /\ J2.stop i H)⟩
theorem uz.moreL {X : Cx} {pins : List (Addr × Obj)} {H : Hp} {b : Addr} {L : List Addr} {h : Heap} (f : uz X pins H b) (hne : b ∉ L) : uz X (pins ++ jD L h) H b := by
 obtain ⟨f0, f1, f2, f3, f4, f5⟩ := f
 refine ⟨f0, f1, f2, f3, f4, fun p hp z => ?_⟩
 rcases g1l.mp hp with q | q
 ·exact f5 p (g2d _ q) z
 ·rcases g1l.mp q with q | q
  ·exact f5 p (g0q _ q) z
  ·have := (kd q).1
   exact hne (z ▸ this)
theorem wu {X : Cx} {pins : List (Addr × Obj)} {L : List Addr} {h : Heap} {σ : St} {H : Hp} {s : Shared} (I : Inv X (pins ++ jD L h) σ H s) {b : Addr} {o : Obj} (hb : b ∈ L) (e : h.get? b = some o) : s.heap.get? b = some o /\ H b = none := by
 obtain ⟨q1, q2, _⟩ := I.pin _ (g0q _ (g0q _ (xy hb e)))
 exact ⟨q1, q2⟩
theorem uf {X : Cx} {pins : List (Addr × Obj)} {σ : St} {H : Hp} {s : Shared} {h' : Heap} {t' : Nat} {b : Addr} (I : Inv X pins σ H s) (hs : Heap.SameBut b s.heap h') (f : uz X pins H b) : Inv X pins σ H { s with heap := h', toks := t' } := by
 obtain ⟨f0, f1, f2, f3, f4, f5⟩ := f
 exact I.turned (t' := t') (fun c o hb q => (hs.2 c hb).trans q) f0 f1 f3 f4 f5
structure ZApart (z TI TO : Addr) (fp1 fp2 : List Addr) : Prop where
 a1 : z ≠ TI
 a2 : z ≠ TO
 a3 : TI ≠ TO
 z1 : ∀ b ∈ fp1 ++ fp2, b ≠ z
 z2 : ∀ b ∈ fp1 ++ fp2, b ≠ TI
 z3 : ∀ b ∈ fp1 ++ fp2, b ≠ TO
 d : ∀ b ∈ fp1, b ∉ fp2
section
variable {P : Program} {w : World} {K : W.Frag} {J1 J2 : It} {fp1 fp2 : List Addr} {i1 i2 z TI TO : Addr} {tn1 tn2 : Nat -> Heap -> Prop}
def tnZ (tn1 tn2 : Nat -> Heap -> Prop) (z TI TO i1 i2 : Addr) (i : Nat) (h : Heap) : Prop := tn1 i h /\ tn2 i h /\ IsZip h z TI TO .none /\ IsPair h TI (.ref i1) (.ref i2) /\ ∃ a b, IsPair h TO a b
theorem Ka {elts : List Expr} {kx : Nat} {tp : Pos} (D1 : Draw P w K J1 fp1 i1 tn1) (D2 : Draw P w K J2 fp2 i2 tn2) (Z : ZApart z TI TO fp1 fp2) :
  Turn P w K (.Tuple elts kx tp) (ItZ J1 J2) (z :: TI :: TO :: (fp1 ++ fp2)) z (tnZ tn1 tn2 z TI TO i1 i2) where
 mem := g0l
 obj := fun i h st b hb => by
  obtain ⟨s1, s2, hz, hTI, a, b', hTO⟩ := st
  rcases g0n.mp hb with rfl | hb
  ·exact ⟨_, hz, fun v z => by cases z⟩
  rcases g0n.mp hb with rfl | hb
  ·exact ⟨_, hTI, fun v z => by cases z⟩
  rcases g0n.mp hb with rfl | hb
  ·exact ⟨_, hTO, fun v z => by cases z⟩
  rcases g1l.mp hb with hb | hb
  ·exact D1.obj i h s1 b hb
  ·exact D2.obj i h s2 b hb
 keep := fun i h h' st k => by
  obtain ⟨s1, s2, hz, hTI, a, b', hTO⟩ := st
  refine ⟨D1.keep i h h' s1 fun b hb o e => k b (by simp [hb]) o e, D2.keep i h h' s2 fun b hb o e => k b (by simp [hb]) o e, k z (by simp) _ hz, k TI (by simp) _ hTI, a, b', k TO (by simp) _ hTO⟩
 item := by
  intro X hP hw hK hc i pins s σ H E I hf st hg
  subst hP hw hK
  obtain ⟨s1, s2, hz, hTI, a, b', hTO⟩ := st
  obtain ⟨g1, g2⟩ := hg
  have hT : s.TypeIs (.ref z) "zip" := ⟨_, hz, rfl⟩
  have fz := hf z (by simp)
  have fTI := hf TI (by simp)
  have fTO := hf TO (by simp)
  have ff1 : ∀ b ∈ fp1, uz X pins H b := fun b hb => hf b (by simp [hb])
  have ff2 : ∀ b ∈ fp2, uz X pins H b := fun b hb => hf b (by simp [hb])
  have n1z : ∀ b ∈ fp1, b ≠ z := fun b hb => Z.z1 b (by simp [hb])
  have n2z : ∀ b ∈ fp2, b ≠ z := fun b hb => Z.z1 b (by simp [hb])
  have n1I : ∀ b ∈ fp1, b ≠ TI := fun b hb => Z.z2 b (by simp [hb])
  have n2I : ∀ b ∈ fp2, b ≠ TI := fun b hb => Z.z2 b (by simp [hb])
  have n1O : ∀ b ∈ fp1, b ≠ TO := fun b hb => Z.z3 b (by simp [hb])
  have n2O : ∀ b ∈ fp2, b ≠ TO := fun b hb => Z.z3 b (by simp [hb])
  unfold pyNext
  refine wpAny_bind (wpAny_attempt (wpAny_callSpecial?_slot (name := Str.ofString "__next__") hT F.slot_zip_next (wpAny_call_entry F.slot_zip_next hT F.entry_zip_next ?_ (F.args_zip_next_1 _))))
  show wpAny _ _ (field (.ref z) 2 >>= _) _ _ _
  refine wpAny_bind (wpAny_field hz rfl (x := .bool false) rfl ?_)
  show wpAny _ _ (field (.ref z) 3 >>= _) _ _ _
  refine wpAny_bind (wpAny_field hz rfl (x := .ref TI) rfl ?_)
  refine wpAny_bind (wpAny_seqItems hTI rfl ?_)
  show wpAny _ _ (Builtin.SmallTypes.ownedTupleIsFree (.ref z) >>= _) _ _ _
  refine wpAny_bind ?_
  unfold Builtin.SmallTypes.ownedTupleIsFree
  refine wpAny_bind (wpAny_field hz rfl (x := .none) rfl (wpAny_pure ?_))
  simp only [if_true]
  refine wpAny_bind (wpAny_rule ?_)
  refine wpAny_bind (wpAny_field hz rfl (x := .ref TO) rfl ?_)
  refine wpAny_bind (wpAny_setField_rec hz (by simp) fun h₁ hz₁ hs₁ => ?_)
  replace hz₁ : IsZip h₁ z TI TO .ellipsis := hz₁
  have I1 : Inv X pins σ H { s with heap := h₁ } := uf (t' := s.toks) I hs₁ fz
  have hTI₁ : IsPair h₁ TI (.ref i1) (.ref i2) := (hs₁.2 TI (Ne.symm Z.a1)).trans hTI
  have hTO₁ : IsPair h₁ TO a b' := (hs₁.2 TO (Ne.symm Z.a2)).trans hTO
  have s1₁ : tn1 i h₁ := D1.keep _ _ _ s1 fun b hb o e => (hs₁.2 b (n1z b hb)).trans e
  have s2₁ : tn2 i h₁ := D2.keep _ _ _ s2 fun b hb o e => (hs₁.2 b (n2z b hb)).trans e
  refine wpAny_bind ?_
  simp only [List.zipIdx_cons, List.zipIdx_nil, List.forIn_cons, List.forIn_nil]
  refine wpAny_bind (wpAny_bind (wpAny_onRaise ?_))
  show wpAny _ _ (Builtin.SmallTypes.nextOf (.ref i1) >>= _) _ _ _
  have I1p := I1.pinned (fp := z :: TI :: TO :: fp2) (fun b hb => by
   rcases g0n.mp hb with rfl | hb
   ·exact fz
   rcases g0n.mp hb with rfl | hb
   ·exact fTI
   rcases g0n.mp hb with rfl | hb
   ·exact fTO
   ·exact ff2 b hb) (fun b hb => by
   rcases g0n.mp hb with rfl | hb
   ·exact ⟨_, hz₁, fun v z => by cases z⟩
   rcases g0n.mp hb with rfl | hb
   ·exact ⟨_, hTI₁, fun v z => by cases z⟩
   rcases g0n.mp hb with rfl | hb
   ·exact ⟨_, hTO₁, fun v z => by cases z⟩
   ·exact D2.obj _ _ s2₁ b hb)
  refine wpAny_bind (wpAny_mono (D1.item _ X rfl rfl rfl i _ _ σ H _ I1p (fun b hb => uz.moreL (ff1 b hb) (by
   intro hm
   rcases g0n.mp hm with e | hm
   ·exact n1z b hb e
   rcases g0n.mp hm with e | hm
   ·exact n1I b hb e
   rcases g0n.mp hm with e | hm
   ·exact n1O b hb e
   ·exact Z.d b hb hm)) s1₁ g1) (fun u1 s3 h3 => wpAny_pure ?_) fun _ _ z => z)
  obtain ⟨x1, H3, I3, r3, y3, st3, fr3⟩ := h3
  obtain ⟨hz₃, fz3⟩ := wu I3 (b := z) (by simp) hz₁
  obtain ⟨hTI₃, fTI3⟩ := wu I3 (b := TI) (by simp) hTI₁
  obtain ⟨hTO₃, fTO3⟩ := wu I3 (b := TO) (by simp) hTO₁
  have hz₃ : IsZip s3.heap z TI TO .ellipsis := hz₃
  have hTI₃ : IsPair s3.heap TI (.ref i1) (.ref i2) := hTI₃
  have hTO₃ : IsPair s3.heap TO a b' := hTO₃
  have s2₃ : tn2 i s3.heap := D2.keep _ _ _ s2₁ fun b hb o e => (wu I3 (by simp [hb]) e).1
  have ff2₃ : ∀ b ∈ fp2, H3 b = none := fun b hb => by
   obtain ⟨o, e, _⟩ := D2.obj _ _ s2₁ b hb
   exact (wu I3 (by simp [hb]) e).2
  have I3 := I3.unpinned
  refine wpAny_bind (wpAny_seqItems hTO₃ rfl ?_)
  refine wpAny_bind (wpAny_updateSeq_pair hTO₃ fun h₄ hTO₄ hs₄ => ?_)
  replace hTO₄ : IsPair h₄ TO u1 b' := hTO₄
  refine wpAny_bind (wpAny_letGo (wpAny_pure ?_))
  have I4 : Inv X pins σ H3 { s3 with heap := h₄ } := uf (t' := s3.toks) I3 hs₄ ⟨fTO3, fTO.2⟩
  have hz₄ : IsZip h₄ z TI TO .ellipsis := (hs₄.2 z Z.a2).trans hz₃
  have hTI₄ : IsPair h₄ TI (.ref i1) (.ref i2) := (hs₄.2 TI Z.a3).trans hTI₃
  have st4 : tn1 (i + 1) h₄ := D1.keep _ _ _ st3 fun b hb o e => (hs₄.2 b (n1O b hb)).trans e
  have s2₄ : tn2 i h₄ := D2.keep _ _ _ s2₃ fun b hb o e => (hs₄.2 b (n2O b hb)).trans e
  refine wpAny_bind (wpAny_bind (wpAny_onRaise ?_))
  show wpAny _ _ (Builtin.SmallTypes.nextOf (.ref i2) >>= _) _ _ _
  have I4p := I4.pinned (fp := z :: TI :: TO :: fp1) (fun b hb => by
   rcases g0n.mp hb with rfl | hb
   ·exact ⟨fz3, fz.2⟩
   rcases g0n.mp hb with rfl | hb
   ·exact ⟨fTI3, fTI.2⟩
   rcases g0n.mp hb with rfl | hb
   ·exact ⟨fTO3, fTO.2⟩
   ·exact ⟨fr3 b hb, (ff1 b hb).2⟩) (fun b hb => by
   rcases g0n.mp hb with rfl | hb
   ·exact ⟨_, hz₄, fun v z => by cases z⟩
   rcases g0n.mp hb with rfl | hb
   ·exact ⟨_, hTI₄, fun v z => by cases z⟩
   rcases g0n.mp hb with rfl | hb
   ·exact ⟨_, hTO₄, fun v z => by cases z⟩
   ·exact D1.obj _ _ st4 b hb)
  refine wpAny_bind (wpAny_mono (D2.item _ X rfl rfl rfl i _ _ σ H3 _ I4p (fun b hb => uz.moreL ⟨ff2₃ b hb, (ff2 b hb).2⟩ (by
   intro hm
   rcases g0n.mp hm with e | hm
   ·exact n2z b hb e
   rcases g0n.mp hm with e | hm
   ·exact n2I b hb e
   rcases g0n.mp hm with e | hm
   ·exact n2O b hb e
   ·exact Z.d b hm hb)) s2₄ (g2 _ _ y3)) (fun u2 s5 h5 => wpAny_pure ?_) fun _ _ z => z)
  obtain ⟨x2, H5, I5, r5, y5, st5, fr5⟩ := h5
  obtain ⟨hz₅, fz5⟩ := wu I5 (b := z) (by simp) hz₄
  obtain ⟨hTI₅, fTI5⟩ := wu I5 (b := TI) (by simp) hTI₄
  obtain ⟨hTO₅, fTO5⟩ := wu I5 (b := TO) (by simp) hTO₄
  have hz₅ : IsZip s5.heap z TI TO .ellipsis := hz₅
  have hTI₅ : IsPair s5.heap TI (.ref i1) (.ref i2) := hTI₅
  have hTO₅ : IsPair s5.heap TO u1 b' := hTO₅
  have st5' : tn1 (i + 1) s5.heap := D1.keep _ _ _ st4 fun b hb o e => (wu I5 (by simp [hb]) e).1
  have ff1₅ : ∀ b ∈ fp1, H5 b = none := fun b hb => by
   obtain ⟨o, e, _⟩ := D1.obj _ _ st4 b hb
   exact (wu I5 (by simp [hb]) e).2
  have I5 := I5.unpinned
  refine wpAny_bind (wpAny_seqItems hTO₅ rfl ?_)
  refine wpAny_bind (wpAny_updateSeq_pair hTO₅ fun h₆ hTO₆ hs₆ => ?_)
  replace hTO₆ : IsPair h₆ TO u1 u2 := hTO₆
  refine wpAny_bind (wpAny_letGo (wpAny_pure (wpAny_pure ?_)))
  have I6 : Inv X pins σ H5 { s5 with heap := h₆ } := uf (t' := s5.toks) I5 hs₆ ⟨fTO5, fTO.2⟩
  have hz₆ : IsZip h₆ z TI TO .ellipsis := (hs₆.2 z Z.a2).trans hz₅
  have hTI₆ : IsPair h₆ TI (.ref i1) (.ref i2) := (hs₆.2 TI Z.a3).trans hTI₅
  have st6 : tn1 (i + 1) h₆ := D1.keep _ _ _ st5' fun b hb o e => (hs₆.2 b (n1O b hb)).trans e
  have st6' : tn2 (i + 1) h₆ := D2.keep _ _ _ st5 fun b hb o e => (hs₆.2 b (n2O b hb)).trans e
  refine wpAny_bind (wpAny_seqItems hTO₆ rfl ?_)
  refine wpAny_bind (wpAny_newTuple ?_)
  have hf7 : H5 h₆.objs.size = none := I6.hok.fresh (g0r _)
  have I7 : Inv X pins σ (upd H5 h₆.objs.size (.tup [x1, x2])) { s5 with heap := h₆.push { cls := .type "tuple", data := .seq #[u1, u2] } } :=
   I6.laid (t' := s5.toks) (fun b u e => Heap.get?_push_of_some _ e) (g0r _) ⟨by show 2 <= sizeLine; decide, [u1, u2], .cons r3 (.cons r5 .nil), ⟨_, Heap.get?_push_size _ rfl, rfl, _, rfl⟩⟩
  have lz : z < h₆.objs.size := Heap.lt_size hz₆
  have lTI : TI < h₆.objs.size := Heap.lt_size hTI₆
  have lTO : TO < h₆.objs.size := Heap.lt_size hTO₆
  show wpAny _ _ (Builtin.SmallTypes.ownedTupleHandOut (.ref z) (.ref h₆.objs.size) >>= _) _ _ _
  refine wpAny_bind ?_
  unfold Builtin.SmallTypes.ownedTupleHandOut
  have hz₇ : IsZip (h₆.push { cls := .type "tuple", data := .seq #[u1, u2] }) z TI TO .ellipsis := Heap.get?_push_of_some _ hz₆
  refine wpAny_bind (wpAny_setField_rec hz₇ (by simp) fun h₈ hz₈ hs₈ => ?_)
  replace hz₈ : IsZip h₈ z TI TO (rawInt h₆.objs.size) := hz₈
  refine wpAny_setField_rec hz₈ (by simp) fun h₉ hz₉ hs₉ => ?_
  replace hz₉ : IsZip h₉ z TI TO (rawInt h₆.objs.size) := hz₉
  refine wpAny_pure ⟨_, rfl, wpAny_pure ⟨_, rfl, ?_⟩⟩
  refine wpAny_letOwnedTupleGo_zip hz₉ fun h₀ hz₀ hs₀ => ?_
  have up : ∀ c o, c ≠ z -> h₆.get? c = some o -> h₀.get? c = some o := fun c o hc e => (hs₀.2 c hc).trans ((hs₉.2 c hc).trans ((hs₈.2 c hc).trans (Heap.get?_push_of_some _ e)))
  have fz7 : (upd H5 h₆.objs.size (.tup [x1, x2])) z = none := by rw [zF (g1g lz)]; exact fz5
  refine ⟨.ref h₆.objs.size, _, I7.turned (t' := s5.toks) (fun b o hb q => (hs₀.2 b hb).trans ((hs₉.2 b hb).trans ((hs₈.2 b hb).trans q))) fz7 fz.2.1 fz.2.2.2.1 fz.2.2.2.2.1 fz.2.2.2.2.2, rfl, ⟨x1, x2, H3, H5, _, y3, y5, hf7, rfl, rfl⟩,
   ⟨D1.keep _ _ _ st6 fun b hb o e => up b o (n1z b hb) e, D2.keep _ _ _ st6' fun b hb o e => up b o (n2z b hb) e, hz₀, up _ _ (Ne.symm Z.a1) hTI₆, _, _, up _ _ (Ne.symm Z.a2) hTO₆⟩, fun b hb => ?_⟩
  have old : ∀ b, b < h₆.objs.size -> H5 b = none -> (upd H5 h₆.objs.size (.tup [x1, x2])) b = none := fun b hl hn => by rw [zF (g1g hl)]; exact hn
  rcases g0n.mp hb with rfl | hb
  ·exact fz7
  rcases g0n.mp hb with rfl | hb
  ·exact old _ lTI fTI5
  rcases g0n.mp hb with rfl | hb
  ·exact old _ lTO fTO5
  rcases g1l.mp hb with hb | hb
  ·obtain ⟨o, q, _⟩ := D1.obj _ _ st6 b hb
   exact old b (Heap.lt_size q) (ff1₅ b hb)
  ·obtain ⟨o, q, _⟩ := D2.obj _ _ st6' b hb
   exact old b (Heap.lt_size q) (fr5 b hb)
 done := by
  intro X hP hw hK hc i pins s σ H E I hf st hg
  subst hP hw hK
  obtain ⟨s1, s2, hz, hTI, a, b', hTO⟩ := st
  have hT : s.TypeIs (.ref z) "zip" := ⟨_, hz, rfl⟩
  have fz := hf z (by simp)
  have fTI := hf TI (by simp)
  have fTO := hf TO (by simp)
  have ff1 : ∀ b ∈ fp1, uz X pins H b := fun b hb => hf b (by simp [hb])
  have ff2 : ∀ b ∈ fp2, uz X pins H b := fun b hb => hf b (by simp [hb])
  have n1z : ∀ b ∈ fp1, b ≠ z := fun b hb => Z.z1 b (by simp [hb])
  have n2z : ∀ b ∈ fp2, b ≠ z := fun b hb => Z.z1 b (by simp [hb])
  have n1I : ∀ b ∈ fp1, b ≠ TI := fun b hb => Z.z2 b (by simp [hb])
  have n2I : ∀ b ∈ fp2, b ≠ TI := fun b hb => Z.z2 b (by simp [hb])
  have n1O : ∀ b ∈ fp1, b ≠ TO := fun b hb => Z.z3 b (by simp [hb])
  have n2O : ∀ b ∈ fp2, b ≠ TO := fun b hb => Z.z3 b (by simp [hb])
  unfold pyNext
  refine wpAny_bind (wpAny_attempt (wpAny_callSpecial?_slot (name := Str.ofString "__next__") hT F.slot_zip_next (wpAny_call_entry F.slot_zip_next hT F.entry_zip_next ?_ (F.args_zip_next_1 _))))
  show wpAny _ _ (field (.ref z) 2 >>= _) _ _ _
  refine wpAny_bind (wpAny_field hz rfl (x := .bool false) rfl ?_)
  show wpAny _ _ (field (.ref z) 3 >>= _) _ _ _
  refine wpAny_bind (wpAny_field hz rfl (x := .ref TI) rfl ?_)
  refine wpAny_bind (wpAny_seqItems hTI rfl ?_)
  show wpAny _ _ (Builtin.SmallTypes.ownedTupleIsFree (.ref z) >>= _) _ _ _
  refine wpAny_bind ?_
  unfold Builtin.SmallTypes.ownedTupleIsFree
  refine wpAny_bind (wpAny_field hz rfl (x := .none) rfl (wpAny_pure ?_))
  simp only [if_true]
  refine wpAny_bind (wpAny_rule ?_)
  refine wpAny_bind (wpAny_field hz rfl (x := .ref TO) rfl ?_)
  refine wpAny_bind (wpAny_setField_rec hz (by simp) fun h₁ hz₁ hs₁ => ?_)
  replace hz₁ : IsZip h₁ z TI TO .ellipsis := hz₁
  have I1 : Inv X pins σ H { s with heap := h₁ } := uf (t' := s.toks) I hs₁ fz
  have hTI₁ : IsPair h₁ TI (.ref i1) (.ref i2) := (hs₁.2 TI (Ne.symm Z.a1)).trans hTI
  have hTO₁ : IsPair h₁ TO a b' := (hs₁.2 TO (Ne.symm Z.a2)).trans hTO
  have s1₁ : tn1 i h₁ := D1.keep _ _ _ s1 fun b hb o e => (hs₁.2 b (n1z b hb)).trans e
  have s2₁ : tn2 i h₁ := D2.keep _ _ _ s2 fun b hb o e => (hs₁.2 b (n2z b hb)).trans e
  have I1p := I1.pinned (fp := z :: TI :: TO :: fp2) (fun b hb => by
   rcases g0n.mp hb with rfl | hb
   ·exact fz
   rcases g0n.mp hb with rfl | hb
   ·exact fTI
   rcases g0n.mp hb with rfl | hb
   ·exact fTO
   ·exact ff2 b hb) (fun b hb => by
   rcases g0n.mp hb with rfl | hb
   ·exact ⟨_, hz₁, fun v z => by cases z⟩
   rcases g0n.mp hb with rfl | hb
   ·exact ⟨_, hTI₁, fun v z => by cases z⟩
   rcases g0n.mp hb with rfl | hb
   ·exact ⟨_, hTO₁, fun v z => by cases z⟩
   ·exact D2.obj _ _ s2₁ b hb)
  have out1 : ∀ b ∈ fp1, uz X (pins ++ jD (z :: TI :: TO :: fp2) h₁) H b := fun b hb => uz.moreL (ff1 b hb) (by
   intro hm
   rcases g0n.mp hm with e | hm
   ·exact n1z b hb e
   rcases g0n.mp hm with e | hm
   ·exact n1I b hb e
   rcases g0n.mp hm with e | hm
   ·exact n1O b hb e
   ·exact Z.d b hb hm)
  refine wpAny_bind ?_
  simp only [List.zipIdx_cons, List.zipIdx_nil, List.forIn_cons, List.forIn_nil]
  refine wpAny_bind (wpAny_bind (wpAny_onRaise ?_))
  show wpAny _ _ (Builtin.SmallTypes.nextOf (.ref i1) >>= _) _ _ _
  rcases hg with hg | ⟨g1, hg⟩
  ·refine wpAny_bind (wpAny_mono (D1.fin X.A.in1 X rfl rfl rfl (I.ok.hd hc) i _ _ σ H _ I1p out1 s1₁ hg) (fun _ _ z => z) fun e s3 h3 => ?_)
   obtain ⟨I3, c, o, rfl, ho, hcl⟩ := h3
   obtain ⟨hz₃, fz3⟩ := wu I3 (b := z) (by simp) hz₁
   have hz₃ : IsZip s3.heap z TI TO .ellipsis := hz₃
   have hcz : c ≠ z := fun x => by subst x; rw [hz₃] at ho; cases ho; simp at hcl
   refine wpAny_setField_rec hz₃ (by simp) fun h₄ hz₄ hs₄ => ?_
   refine wpAny_bind (wpAny_isInstance (T := "StopIteration") (b := true) ⟨o, (hs₄.2 c hcz).trans ho, hcl⟩ isSubtype_stop ?_)
   exact wpAny_pure ⟨rfl, uf (t' := s3.toks) I3.unpinned hs₄ ⟨fz3, fz.2⟩⟩
  ·refine wpAny_bind (wpAny_mono (D1.item _ X rfl rfl rfl i _ _ σ H _ I1p out1 s1₁ g1) (fun u1 s3 h3 => wpAny_pure ?_) fun _ _ z => z)
   obtain ⟨x1, H3, I3, r3, y3, st3, fr3⟩ := h3
   obtain ⟨rfl, hst⟩ := hg _ _ y3
   obtain ⟨hz₃, fz3⟩ := wu I3 (b := z) (by simp) hz₁
   obtain ⟨hTI₃, fTI3⟩ := wu I3 (b := TI) (by simp) hTI₁
   obtain ⟨hTO₃, fTO3⟩ := wu I3 (b := TO) (by simp) hTO₁
   have hz₃ : IsZip s3.heap z TI TO .ellipsis := hz₃
   have hTO₃ : IsPair s3.heap TO a b' := hTO₃
   have s2₃ : tn2 i s3.heap := D2.keep _ _ _ s2₁ fun b hb o e => (wu I3 (by simp [hb]) e).1
   have I3 := I3.unpinned
   refine wpAny_bind (wpAny_seqItems hTO₃ rfl ?_)
   refine wpAny_bind (wpAny_updateSeq_pair hTO₃ fun h₄ hTO₄ hs₄ => ?_)
   refine wpAny_bind (wpAny_letGo (wpAny_pure ?_))
   have I4 : Inv X pins σ H3 { s3 with heap := h₄ } := uf (t' := s3.toks) I3 hs₄ ⟨fTO3, fTO.2⟩
   have hz₄ : IsZip h₄ z TI TO .ellipsis := (hs₄.2 z Z.a2).trans hz₃
   have s2₄ : tn2 i h₄ := D2.keep _ _ _ s2₃ fun b hb o e => (hs₄.2 b (n2O b hb)).trans e
   refine wpAny_bind (wpAny_bind (wpAny_onRaise ?_))
   show wpAny _ _ (Builtin.SmallTypes.nextOf (.ref i2) >>= _) _ _ _
   have I4p := I4.pinned (fp := [z]) (fun b hb => by
    have e : b = z := by simpa using hb
    subst e; exact ⟨fz3, fz.2⟩) (fun b hb => by
    have e : b = z := by simpa using hb
    subst e; exact ⟨_, hz₄, fun v z => by cases z⟩)
   refine wpAny_bind (wpAny_mono (D2.fin X.A.in1 X rfl rfl rfl (I.ok.hd hc) i _ _ σ H3 _ I4p (fun b hb => uz.moreL (ff2 b hb) (by
    intro hm
    exact n2z b hb (by simpa using hm))) s2₄ hst) (fun _ _ z => z) fun e s5 h5 => ?_)
   obtain ⟨I5, c, o, rfl, ho, hcl⟩ := h5
   obtain ⟨hz₅, fz5⟩ := wu I5 (b := z) (by simp) hz₄
   have hz₅ : IsZip s5.heap z TI TO .ellipsis := hz₅
   have hcz : c ≠ z := fun x => by subst x; rw [hz₅] at ho; cases ho; simp at hcl
   refine wpAny_setField_rec hz₅ (by simp) fun h₆ hz₆ hs₆ => ?_
   refine wpAny_bind (wpAny_isInstance (T := "StopIteration") (b := true) ⟨o, (hs₆.2 c hcz).trans ho, hcl⟩ isSubtype_stop ?_)
   exact wpAny_pure ⟨rfl, uf (t' := s5.toks) I5.unpinned hs₆ ⟨fz5, fz.2⟩⟩
 self := fun A i s Q E st h => wpAny_pyIter_zip st.2.2.1 h
end
def SqH (b : Bool) (h : Heap) (a : Addr) (its : Array Value) : Prop := if b = true then h.IsList a its else h.IsTuple a its
def x8 (b : Bool) (a : Addr) : Obj := { cls := .type (if b = true then "list_iterator" else "tuple_iterator"), data := .fields #[.ref a, .int 0 0] }
theorem SqH.push {b : Bool} {h : Heap} {a : Addr} {its : Array Value} (q : SqH b h a its) (o : Obj) : SqH b (h.push o) a its := by
 cases b with
 | true => exact Heap.IsList.push q o
 | false => exact Heap.IsTuple.push q o
section
variable {prog : Program} {w : World} {A : Around} {E : Value -> Shared -> Prop} {s : Shared}
theorem vz {b : Bool} {a : Addr} {its : Array Value} {Q : Value -> Shared -> Prop} (q : SqH b s.heap a its) (h : Q (.ref s.heap.objs.size) { s with heap := s.heap.push (x8 b a) }) : wpAny (model prog w) A (pyIter (.ref a)) Q E s := by
 cases b with
 | true => exact wpAny_pyIter_list q h
 | false => exact wpAny_pyIter_tuple q h
theorem Uq (b : Bool) (a : Addr) (its : Array Value) :
  Meets (Builtin.«enumerate.__new__» ⟨[.type "enumerate", .ref a], []⟩) (fun _ R s => SqH b s.heap a its ∧
   R (.ok (.ret (.ref (s.heap.push (x8 b a)).objs.size))) { s with heap := (s.heap.push (x8 b a)).push { cls := .type "enumerate", data := .fields #[.none, .bool false, .ref s.heap.objs.size, rawInt 0, .none, .none] } }) :=
 .of_wp fun prog w A R s h => by
  obtain ⟨hp, g, d, tk, os⟩ := s; obtain ⟨hl, h⟩ := h
  have hsub := sub_enumerate
  have hL : SqH b (Shared.heap ⟨hp, g, d, tk, os⟩) a its := hl
  wp_walk using vz hL
  refine wpAny_stack_any fun st => wpAny_pure ?_
  split
  ·rename_i c _ _ _ _ _
   cases (c == Value.type "enumerate")
   ·wp_walk using vz hL
    exact ⟨_, rfl, h⟩
   ·wp_walk using vz hL
    exact ⟨_, rfl, h⟩
  ·wp_walk using vz hL
   exact ⟨_, rfl, h⟩
theorem JL {b : Bool} {a : Addr} {its : Array Value} {Q : Value -> Shared -> Prop} (hL : SqH b s.heap a its)
  (h : ∀ h', IsEnum h' (s.heap.objs.size + 1) s.heap.objs.size 0 .none -> h'.get? s.heap.objs.size = some (x8 b a) -> (∀ b o, s.heap.get? b = some o -> h'.get? b = some o) -> Q (.ref (s.heap.objs.size + 1)) { s with heap := h' }) :
  wpAny (model prog w) A (call (.type "enumerate") [.ref a]) Q E s := by
 refine callType_new F.called_enumerate (by decide) (F.typeCall_enumerate_1 _) (F.newCall_enumerate_1 _) (fun obj => F.args_object_init_2 obj _) F.entry_enumerate_new (Uq b a its) ⟨hL, ?_⟩
 have hz : (s.heap.push (x8 b a)).objs.size = s.heap.objs.size + 1 := Heap.size_push ..
 show _ /\ _
 rw [hz]
 have he : IsEnum ((s.heap.push (x8 b a)).push { cls := .type "enumerate", data := .fields #[.none, .bool false, .ref s.heap.objs.size, rawInt 0, .none, .none] }) (s.heap.objs.size + 1) s.heap.objs.size 0 .none := by
  have := Heap.get?_push_size (s.heap.push (x8 b a)) (o := { cls := .type "enumerate", data := .fields #[.none, .bool false, .ref s.heap.objs.size, rawInt 0, .none, .none] }) rfl
  rw [hz] at this; exact this
 exact ⟨⟨_, he, rfl⟩, h _ he (Heap.get?_push_of_some _ (Heap.get?_push_size _ rfl)) fun b o x => Heap.get?_push_of_some _ (Heap.get?_push_of_some _ x)⟩
theorem QJ (b1 b2 : Bool) (l1 l2 : Addr) (xs ys : Array Value) :
  Meets (Builtin.«zip.__new__» ⟨[.type "zip", .ref l1, .ref l2], []⟩) (fun _ R s => SqH b1 s.heap l1 xs /\ SqH b2 s.heap l2 ys ∧
   R (.ok (.ret (.ref ((((s.heap.push (x8 b1 l1)).push (x8 b2 l2)).push { cls := .type "tuple", data := .seq #[.ref s.heap.objs.size, .ref (s.heap.push (x8 b1 l1)).objs.size] }).push { cls := .type "tuple", data := .seq #[.none, .none] }).objs.size)))
    { s with heap := ((((s.heap.push (x8 b1 l1)).push (x8 b2 l2)).push { cls := .type "tuple", data := .seq #[.ref s.heap.objs.size, .ref (s.heap.push (x8 b1 l1)).objs.size] }).push { cls := .type "tuple", data := .seq #[.none, .none] }).push ({ cls := .type "zip", data := .fields #[.none, .bool false, .bool false, .ref ((s.heap.push (x8 b1 l1)).push (x8 b2 l2)).objs.size, .ref (((s.heap.push (x8 b1 l1)).push (x8 b2 l2)).push { cls := .type "tuple", data := .seq #[.ref s.heap.objs.size, .ref (s.heap.push (x8 b1 l1)).objs.size] }).objs.size] } : Obj) }) :=
 .of_wp fun prog w A R s h => by
  obtain ⟨hp, g, d, tk, os⟩ := s; obtain ⟨hl1, hl2, h⟩ := h
  have hsub := sub_zip
  have hL1 : SqH b1 (Shared.heap ⟨hp, g, d, tk, os⟩) l1 xs := hl1
  have hL2 : SqH b2 (Shared.heap ⟨hp.push (x8 b1 l1), g, d, tk, os⟩) l2 ys := SqH.push hl2 _
  wp_walk using vz hL1, vz hL2
  exact ⟨_, rfl, h⟩
theorem GQ {b1 b2 : Bool} {l1 l2 : Addr} {xs ys : Array Value} {Q : Value -> Shared -> Prop} (hl1 : SqH b1 s.heap l1 xs) (hl2 : SqH b2 s.heap l2 ys)
  (h : ∀ h', IsZip h' (s.heap.objs.size + 4) (s.heap.objs.size + 2) (s.heap.objs.size + 3) .none -> IsPair h' (s.heap.objs.size + 2) (.ref s.heap.objs.size) (.ref (s.heap.objs.size + 1)) →
   IsPair h' (s.heap.objs.size + 3) .none .none -> h'.get? s.heap.objs.size = some (x8 b1 l1) -> h'.get? (s.heap.objs.size + 1) = some (x8 b2 l2) -> (∀ c o, s.heap.get? c = some o -> h'.get? c = some o) -> Q (.ref (s.heap.objs.size + 4)) { s with heap := h' }) :
  wpAny (model prog w) A (call (.type "zip") [.ref l1, .ref l2]) Q E s := by
 refine callType_new F.called_zip (by decide) (F.typeCall_zip_2 _ _) (F.newCall_zip_2 _ _) (fun obj => F.args_object_init_3 obj _ _) F.entry_zip_new (QJ b1 b2 l1 l2 xs ys) ⟨hl1, hl2, ?_⟩
 generalize e1 : s.heap.push (x8 b1 l1) = h1
 generalize e2 : h1.push (x8 b2 l2) = h2
 generalize e3 : h2.push { cls := .type "tuple", data := .seq #[.ref s.heap.objs.size, .ref h1.objs.size] } = h3
 generalize e4 : h3.push { cls := .type "tuple", data := .seq #[.none, .none] } = h4
 have z1 : h1.objs.size = s.heap.objs.size + 1 := by rw [<- e1]; exact Heap.size_push ..
 have z2 : h2.objs.size = s.heap.objs.size + 2 := by rw [<- e2, Heap.size_push, z1]
 have z3 : h3.objs.size = s.heap.objs.size + 3 := by rw [<- e3, Heap.size_push, z2]
 have z4 : h4.objs.size = s.heap.objs.size + 4 := by rw [<- e4, Heap.size_push, z3]
 have k1 : ∀ c o, s.heap.get? c = some o -> h1.get? c = some o := fun c o x => by rw [<- e1]; exact Heap.get?_push_of_some _ x
 have k2 : ∀ c o, h1.get? c = some o -> h2.get? c = some o := fun c o x => by rw [<- e2]; exact Heap.get?_push_of_some _ x
 have k3 : ∀ c o, h2.get? c = some o -> h3.get? c = some o := fun c o x => by rw [<- e3]; exact Heap.get?_push_of_some _ x
 have k4 : ∀ c o, h3.get? c = some o -> h4.get? c = some o := fun c o x => by rw [<- e4]; exact Heap.get?_push_of_some _ x
 have g1 : h1.get? s.heap.objs.size = some (x8 b1 l1) := by rw [<- e1]; exact Heap.get?_push_size _ rfl
 have g2 : h2.get? h1.objs.size = some (x8 b2 l2) := by rw [<- e2]; exact Heap.get?_push_size _ rfl
 have g3 : IsPair h3 h2.objs.size (.ref s.heap.objs.size) (.ref h1.objs.size) := by show h3.get? h2.objs.size = _; rw [<- e3]; exact Heap.get?_push_size _ rfl
 have g4 : IsPair h4 h3.objs.size .none .none := by show h4.get? h3.objs.size = _; rw [<- e4]; exact Heap.get?_push_size _ rfl
 show _ /\ _
 rw [z2, z3, z4]
 rw [z1] at g2
 rw [z1, z2] at g3
 rw [z3] at g4
 have g5 : IsZip (h4.push { cls := .type "zip", data := .fields #[.none, .bool false, .bool false, .ref (s.heap.objs.size + 2), .ref (s.heap.objs.size + 3)] }) (s.heap.objs.size + 4) (s.heap.objs.size + 2) (s.heap.objs.size + 3) .none := by
  have := Heap.get?_push_size h4 (o := { cls := .type "zip", data := .fields #[.none, .bool false, .bool false, .ref (s.heap.objs.size + 2), .ref (s.heap.objs.size + 3)] }) rfl
  rw [z4] at this; exact this
 exact ⟨⟨_, g5, rfl⟩, h _ g5 (Heap.get?_push_of_some _ (k4 _ _ g3)) (Heap.get?_push_of_some _ g4) (Heap.get?_push_of_some _ (k4 _ _ (k3 _ _ (k2 _ _ g1)))) (Heap.get?_push_of_some _ (k4 _ _ (k3 _ _ g2))) fun c o x => Heap.get?_push_of_some _ (k4 _ _ (k3 _ _ (k2 _ _ (k1 _ _ x))))⟩
theorem X3 {e it : Addr} {i : Int} {old : Value} {Q : Value -> Shared -> Prop} (he : IsEnum s.heap e it i old) (h : Q (.ref e) s) : wpAny (model prog w) A (pyIter (.ref e)) Q E s := by
 have hT : s.TypeIs (.ref e) "enumerate" := ⟨_, he, rfl⟩
 refine wpAny_pyIter_slot hT F.slot_enumerate_iter (wpAny_call_entry F.slot_enumerate_iter hT F.entry_enumerate_iter ?_ (F.args_enumerate_iter_1 _))
 show wpAny _ _ (ret (.ref e)) _ _ s
 exact wpAny_pure ⟨_, rfl, "enumerate", _, hT, F.slot_enumerate_next.lookup, h⟩
end
theorem Zt {K : W.Frag} {Hf : Hp} {a : Addr} {xs : List V} {ds : List D} (qa : SqL K Hf a xs) (la : zP K Hf ds xs) : Walks K Hf (Itl K a) ds := fun H2 Hf2 t2 sf2 i => by
 refine ⟨fun d hd => ?_, fun hle => ⟨xs, sf2.seq (t2.seq qa), by rw [la.length]; exact hle⟩⟩
 obtain ⟨v, e3, e4⟩ := la.get hd
 have sq : SqL K H2 a xs := sf2.seq (t2.seq qa)
 refine ⟨⟨xs, v, sq, e3⟩, fun x H3 hy => ?_⟩
 obtain ⟨rfl, hy⟩ := hy
 have := hy xs sq
 rw [e3] at this
 cases this
 exact ⟨Hf2, Grows.refl sf2, e4.mono t2⟩
theorem YJ {K : W.Frag} {Hf : Hp} {a : Addr} {xs : List V} {ds : List D} (qa : SqT K Hf a xs) (la : zP K Hf ds xs) : Walks K Hf (Itt K a) ds := fun H2 Hf2 t2 sf2 i => by
 refine ⟨fun d hd => ?_, fun hle => ⟨xs, uZ sf2 (uZ t2 qa), by rw [la.length]; exact hle⟩⟩
 obtain ⟨v, e3, e4⟩ := la.get hd
 have sq : SqT K H2 a xs := uZ sf2 (uZ t2 qa)
 refine ⟨⟨xs, v, sq, e3⟩, fun x H3 hy => ?_⟩
 obtain ⟨rfl, hy⟩ := hy
 have := hy xs sq
 rw [e3] at this
 cases this
 exact ⟨Hf2, Grows.refl sf2, e4.mono t2⟩
theorem Grows.lay {H Hf : Hp} {p : Addr} {o : HO} (s : yi Hf H) (hp : H p = none) : Grows H Hf (upd H p o) (upd Hf p o) := by
 have hfp : Hf p = none := s.free hp
 refine ⟨zy hp, zy hfp, fun b u e => ?_, fun b u e => ?_⟩
 ·by_cases hb : b = p
  ·subst hb; rw [zq] at e ⊢; exact e
  ·rw [zF hb] at e ⊢; exact s b u e
 ·by_cases hb : b = p
  ·subst hb; exact .inr (.inl hp)
  ·rw [zF hb] at e; exact .inl e
def vW (ds : List D) : List D := ds.zipIdx.map fun p => .tup [.int (p.2 : Int), p.1]
theorem Jk {ds : List D} {i : Nat} {d : D} (h : (vW ds)[i]? = some d) : ∃ x, ds[i]? = some x /\ d = .tup [.int i, x] := by
 unfold vW at h
 rw [g0w, List.getElem?_zipIdx] at h
 cases e : ds[i]? with
 | none => rw [e] at h; cases h
 | some x => rw [e] at h; simp at h; exact ⟨x, rfl, h.symm⟩
theorem Xm (ds : List D) : (vW ds).length = ds.length := by simp [vW]
theorem VR {K : W.Frag} {Hf : Hp} {J : It} {ds : List D} (wk : Walks K Hf J ds) : Walks K Hf (ItE J) (vW ds) := fun H2 Hf2 t2 sf2 i => by
 obtain ⟨w1, w2⟩ := wk H2 Hf2 t2 sf2 i
 refine ⟨fun d hd => ?_, fun hle => w2 (by rw [Xm] at hle; exact hle)⟩
 obtain ⟨x, hx, rfl⟩ := Jk hd
 obtain ⟨go, yl⟩ := w1 x hx
 refine ⟨go, fun v H3 hy => ?_⟩
 obtain ⟨y, H1, p, hy, hp, rfl, rfl⟩ := hy
 obtain ⟨Hf1, gr, hh⟩ := yl y H1 hy
 have g2 := Grows.lay (o := .tup [.int i, y]) gr.fh hp
 exact ⟨_, gr.trans g2, Has.tup_iff.mpr ⟨p, _, rfl, SqT.of zq, .cons (Has.int_iff.mpr rfl) (.cons (hh.mono g2.f) .nil)⟩⟩
def XR (xs ys : List D) : List D := (xs.zip ys).map fun p => .tup [p.1, p.2]
theorem WM {xs ys : List D} {i : Nat} {d : D} (h : (XR xs ys)[i]? = some d) : ∃ x y, xs[i]? = some x /\ ys[i]? = some y /\ d = .tup [x, y] := by
 unfold XR at h
 rw [g0w] at h
 cases e : (xs.zip ys)[i]? with
 | none => rw [e] at h; cases h
 | some p =>
  rw [e] at h
  simp at h
  obtain ⟨h1, h2⟩ := List.getElem?_zip_eq_some.mp e
  exact ⟨p.1, p.2, h1, h2, h.symm⟩
theorem j0 (xs ys : List D) : (XR xs ys).length = min xs.length ys.length := by simp [XR]
theorem UW {K : W.Frag} {Hf : Hp} {J1 J2 : It} {xs ys : List D} (hq : ∀ i H x H', J1.yld i H x H' -> H' = H) (w1 : Walks K Hf J1 xs) (w2 : Walks K Hf J2 ys) : Walks K Hf (ItZ J1 J2) (XR xs ys) := fun H2 Hf2 t2 sf2 i => by
 obtain ⟨a1, a2⟩ := w1 H2 Hf2 t2 sf2 i
 obtain ⟨b1, b2⟩ := w2 H2 Hf2 t2 sf2 i
 refine ⟨fun d hd => ?_, fun hle => ?_⟩
 ·obtain ⟨x, y, hx, hy, rfl⟩ := WM hd
  obtain ⟨go1, yl1⟩ := a1 x hx
  obtain ⟨go2, yl2⟩ := b1 y hy
  refine ⟨⟨go1, fun v H1 q => by rw [hq _ _ _ _ q]; exact go2⟩, fun v H3 q => ?_⟩
  obtain ⟨y1, y2, H1, H2', p, q1, q2, hp, rfl, rfl⟩ := q
  have e1 := hq _ _ _ _ q1
  subst e1
  obtain ⟨Hf1, gr1, h1⟩ := yl1 y1 _ q1
  obtain ⟨Hf3, gr3, h3⟩ := (w2 H1 Hf1 (t2.trans gr1.f) gr1.fh i).1 y hy |>.2 y2 _ q2
  have g2 := Grows.lay (o := .tup [y1, y2]) gr3.fh hp
  exact ⟨_, (gr1.trans gr3).trans g2, Has.tup_iff.mpr ⟨p, _, rfl, SqT.of zq, .cons ((h1.mono gr3.f).mono g2.f) (.cons (h3.mono g2.f) .nil)⟩⟩
 ·rw [j0] at hle
  by_cases h : xs.length <= i
  ·exact .inl (a2 h)
  ·have hx : xs[i]? = some xs[i] := g1i (by omega)
   exact .inr ⟨(a1 _ hx).1, fun v H1 q => ⟨hq _ _ _ _ q, b2 (by omega)⟩⟩
section
variable {X : Cx} {e e1 e2 : Expr} {f f1 f2 : FE} {pos : Pos} {elts : List Expr} {kx : Nat} {tp : Pos}
theorem Xi {pins : List (Addr × Obj)} {σ : St} {H : Hp} {s : Shared} (I : Inv X pins σ H s) {b : Addr} (hb : s.heap.objs.size <= b) : uz X pins H b := I.fpOk hb (I.hok.fresh hb)
def V1 : D -> Option (List D)
 | .lst ds => some ds
 | .tup ds => some ds
 | _ => none
def zM (f : FE) : FA := fun ρ => (f ρ).bind V1
def ky (f : FE) : FA := fun ρ => (zM f ρ).bind fun ds => some (vW ds)
def Xf (f g : FE) : FA := fun ρ => (zM f ρ).bind fun xs => (zM g ρ).bind fun ys => some (XR xs ys)
theorem U1 {pins : List (Addr × Obj)} {σ : St} {H Hf : Hp} {s : Shared} {d : D} {ds : List D} {v : V} {u : Value} (I : Inv X pins σ H s) (sf : yi Hf H) (h : Has X.K Hf d v) (hd : V1 d = some ds) (r : yV v u) :
  ∃ (b : Bool) (a : Addr) (its : Array Value) (J : It), u = .ref a /\ SqH b s.heap a its /\ Walks X.K Hf J ds /\ (∀ i H x H', J.yld i H x H' -> H' = H) ∧
   ∀ it, ∃ tn : Nat -> Heap -> Prop, Draw X.prog X.w X.K J [it] it tn /\ ∀ h : Heap, h.get? it = some (x8 b a) -> tn 0 h := by
 cases d with
 | lst ds' =>
  cases hd
  obtain ⟨a, xs, rfl, qa, la⟩ := Has.lst_iff.mp h
  cases r
  obtain ⟨its, _, p, _⟩ := I.list (sf.seq qa)
  exact ⟨true, a, _, _, rfl, p.isList, Zt qa la, fun _ _ _ _ q => q.1, fun it => ⟨_, Jn a it, fun h e => ⟨_, e, rfl, rfl⟩⟩⟩
 | tup ds' =>
  cases hd
  obtain ⟨a, xs, rfl, qa, la⟩ := Has.tup_iff.mp h
  cases r
  obtain ⟨its, _, p, _⟩ := I.tuple (uZ sf qa)
  exact ⟨false, a, _, _, rfl, p, YJ qa la, fun _ _ _ _ q => q.1, fun it => ⟨_, UE a it, fun h e => ⟨_, e, rfl, rfl⟩⟩⟩
 | _ => cases hd
theorem Wt {p : Pos} (hg : Gl X "enumerate") (hm : X.mg "enumerate" = none) (he : DE X e f) (hs : starEach [e] X.env = [(false, eval e X.env)] := by rfl) : DI X (.Tuple elts kx tp) (.Call (.Name "enumerate" p) [e] [] pos) (ky f) := by
 intro pins s σ H R I h
 obtain ⟨H₀, Hf₀, ρ, Hf, ds', R0, q, k⟩ := h
 obtain ⟨ds, q1, q2⟩ := yp q
 cases q2
 obtain ⟨d, q3, q4⟩ := zL q1
 refine Call_ (kq I hg hm boot_enumerate (PyProof.Rows.callWith_type1 (thn ((wm he uT hs) pos pins s σ H (fun vs H1 => ∃ v Hf1, vs = [v] /\ Rep X.K H₀ Hf₀ σ ρ H1 Hf1 /\ yi H H1 /\ yi Hf Hf1 /\ Has X.K Hf1 d v) I ⟨H₀, Hf₀, ρ, Hf, d, R0, q3, fun v H1 Hf1 R1 s1 t1 h1 => ⟨v, Hf1, rfl, R1, s1, t1, h1⟩⟩) fun us s1 ⟨vs, H1, I1, r1, q1⟩ => ?_) hs rfl))
 obtain ⟨v, Hf1, rfl, R1, s1', t1, h1⟩ := q1
 cases r1 with
 | cons r rr =>
  cases rr
  obtain ⟨b, a, its, J, rfl, sq, wk, _, dr⟩ := U1 I1 R1.sf h1 q4 r
  refine JL sq fun h' he' hi' hk => ?_
  have I2 : Inv X pins σ H1 { s1 with heap := h' } := I1.kept (t' := s1.toks) hk
  obtain ⟨tn, D, st⟩ := dr s1.heap.objs.size
  refine X3 he' ⟨s1.heap.objs.size + 1, [s1.heap.objs.size + 1, s1.heap.objs.size], _, _, H1, rfl, I2, UZ (elts := elts) (kx := kx) (tp := tp) (e := s1.heap.objs.size + 1) D (fun b hb => by
   have e : b = s1.heap.objs.size := by simpa using hb
   rw [e]; exact g1g (Nat.lt_succ_self _)), ⟨st _ hi', _, he'⟩, fun b hb => ?_, k _ _ _ R1 s1' t1 (VR wk)⟩
  rcases g0n.mp hb with rfl | hb
  ·exact Xi I1 (g3a _)
  ·have e : b = s1.heap.objs.size := by simpa using hb
   rw [e]; exact Xi I1 (g0r _)
theorem Ho {p : Pos} (hg : Gl X "zip") (hm : X.mg "zip" = none) (h1 : DE X e1 f1) (h2 : DE X e2 f2) (hs : starEach [e1, e2] X.env = [(false, eval e1 X.env), (false, eval e2 X.env)] := by rfl) (hs2 : starEach [e2] X.env = [(false, eval e2 X.env)] := by rfl) :
  DI X (.Tuple elts kx tp) (.Call (.Name "zip" p) [e1, e2] [] pos) (Xf f1 f2) := by
 intro pins s σ H R I h
 obtain ⟨H₀, Hf₀, ρ, Hf, ds', R0, q, k⟩ := h
 obtain ⟨xs, q1, q2⟩ := yp q
 obtain ⟨ys, q5, q6⟩ := yp q2
 cases q6
 obtain ⟨d1, q3, q4⟩ := zL q1
 obtain ⟨d2, q7, q8⟩ := zL q5
 refine Call_ (kq I hg hm boot_zip (PyProof.Rows.callWith_type1 (thn ((wm h1 (wm h2 uT hs2) (by rw [hs, hs2])) pos pins s σ H (fun vs H1 => ∃ v v' Hf1, vs = [v, v'] /\ Rep X.K H₀ Hf₀ σ ρ H1 Hf1 /\ yi H H1 /\ yi Hf Hf1 /\ Has X.K Hf1 d1 v /\ Has X.K Hf1 d2 v') I
  ⟨H₀, Hf₀, ρ, Hf, d1, R0, q3, fun v H1 Hf1 R1 s1 t1 h1 => ⟨H₀, Hf₀, ρ, Hf1, d2, R1, q7, fun v' H2 Hf2 R2 s2 t2 h2 => ⟨v, v', Hf2, rfl, R2, s1.trans s2, t1.trans t2, h1.mono t2, h2⟩⟩⟩) fun us s1 ⟨vs, H1, I1, r1, q1⟩ => ?_) (by rw [hs, hs2]) (by rw [hs2]; rfl)))
 obtain ⟨v, v', Hf1, rfl, R1, s1', t1, hv, hv'⟩ := q1
 cases r1 with
 | cons r rr =>
  cases rr with
  | cons r' rr =>
   cases rr
   obtain ⟨b, a, its, J, rfl, sq, wk, hq, dr⟩ := U1 I1 R1.sf hv q4 r
   obtain ⟨b', a', its', J', rfl, sq', wk', hq', dr'⟩ := U1 I1 R1.sf hv' q8 r'
   refine GQ sq sq' fun h' hz hTI hTO hi hi' hk => ?_
   have I2 : Inv X pins σ H1 { s1 with heap := h' } := I1.kept (t' := s1.toks) hk
   obtain ⟨tn, D, st⟩ := dr s1.heap.objs.size
   obtain ⟨tn', D', st'⟩ := dr' (s1.heap.objs.size + 1)
   have mem : ∀ b : Addr, b ∈ [s1.heap.objs.size] ++ [s1.heap.objs.size + 1] -> b = s1.heap.objs.size \/ b = s1.heap.objs.size + 1 := fun b hb => by simpa using hb
   have Z : ZApart (s1.heap.objs.size + 4) (s1.heap.objs.size + 2) (s1.heap.objs.size + 3) [s1.heap.objs.size] [s1.heap.objs.size + 1] :=
    ⟨by show (_ : Nat) ≠ _; omega, by show (_ : Nat) ≠ _; omega, by show (_ : Nat) ≠ _; omega, fun b hb => by rcases mem b hb with e | e <;> (rw [e]; show (_ : Nat) ≠ _; omega), fun b hb => by rcases mem b hb with e | e <;> (rw [e]; show (_ : Nat) ≠ _; omega),
     fun b hb => by rcases mem b hb with e | e <;> (rw [e]; show (_ : Nat) ≠ _; omega), fun b hb hb' => by
      have e1 : b = s1.heap.objs.size := by simpa using hb
      have e2 : b = s1.heap.objs.size + 1 := by simpa using hb'
      rw [e1] at e2
      exact absurd e2 (g1g (Nat.lt_succ_self _))⟩
   refine wpAny_pyIter_zip hz ⟨_, _, _, _, H1, rfl, I2, Ka (elts := elts) (kx := kx) (tp := tp) D D' Z, ⟨st _ hi, st' _ hi', hz, hTI, _, _, hTO⟩, fun b hb => ?_, k _ _ _ R1 s1' t1 (UW hq wk wk')⟩
   have hle : s1.heap.objs.size <= b := by
    have : b = s1.heap.objs.size + 4 \/ b = s1.heap.objs.size + 2 \/ b = s1.heap.objs.size + 3 \/ b = s1.heap.objs.size \/ b = s1.heap.objs.size + 1 := by simpa using hb
    rcases this with e | e | e | e | e <;> (rw [e]; show (_ : Nat) <= _; omega)
   exact Xi I1 hle
end
section
variable {prog : Program} {w : World} {A : Around} {E : Value -> Shared -> Prop} {s : Shared}
theorem jg {t sl : Addr} {items : Array Value} {vl vu : Value} {lo hi : Option Int} {Q : Value -> Shared -> Prop} (ht : IsTup s.heap t items) (hs : s.heap.IsSliceOf sl vl vu .none) (pl : IsPart vl lo) (pu : IsPart vu hi)
  (hw : HT.sIx items.size 0 lo = 0 /\ HT.sIx items.size items.size hi = items.size) (h : Q (.ref t) s) : wpAny (model prog w) A (getItem (.ref t) (.ref sl)) Q E s := by
 obtain ⟨os, hos, hcs, hds⟩ := id hs
 have hTs : s.TypeIs (.ref sl) "slice" := ⟨os, hos, hcs⟩
 unfold getItem
 try with_reducible refine wpAny_holding ?_
 first | refine wpAny_bind (wpAny_pure ?_) | skip
 refine wpAny_bind (wpAny_sequenceKey ht.typeIs (by decide) ?_)
 refine wpAny_bind (wpAny_callSpecial?_slot (name := Str.ofString "__getitem__") ht.typeIs PyProof.Rows.slot_tuple_getitem
  (wpAny_call_entry PyProof.Rows.slot_tuple_getitem ht.typeIs entry_tuple_getitem ?_ (args_tuple_getitem _ _)))
 show wpAny _ _ (Builtin.Tuple.tupleItemsOf (.ref t) >>= _) _ _ s
 refine wpAny_bind (tupleItemsOf_ ht ?_)
 refine wpAny_bind (wpAny_typeOf hTs ?_)
 rw [if_pos (by decide)]
 refine wpAny_bind (HT.sliceApplied_gen hs pl pu ?_)
 rw [hw.1, hw.2]
 show wpAny _ _ (if (((0 : Nat) : Int) == 0 && (1 : Int) == 1 && (items.size - 0) == items.size) = true then _ else _) _ _ s
 rw [if_pos (by simp)]
 show wpAny _ _ (Builtin.Tuple.tupleIsExact (.ref t) >>= _) _ _ s
 unfold Builtin.Tuple.tupleIsExact
 refine wpAny_bind (wpAny_bind (wpAny_typeOf ht.typeIs (wpAny_pure ?_)))
 rw [if_pos (by decide)]
 refine wpAny_bind (wpAny_rule ?_)
 exact wpAny_pure ⟨_, rfl, wpAny_pure h⟩
open PySem.AutoSeq1 (wpAny_loadPart') in
theorem XX (l b : Addr) (items2 : Array Value) (n n2 : Nat) (dd dd2 : Option Addr) (sl sl2 : Array (Option Value)) :
  Meets (Builtin.«tuple.__add__» ⟨[.ref l, .ref b], []⟩) (fun _ R s => s.heap.get? l = some { cls := .type "tuple", dict := dd, data := .seq #[] n, slots := sl } /\ s.heap.get? b = some { cls := .type "tuple", dict := dd2, data := .seq items2 n2, slots := sl2 } /\ R (.ok (.ret (.ref b))) s) :=
 .of_wp fun prog w A R s h => by
  obtain ⟨hp, g, d, tk, os⟩ := s; obtain ⟨hl, hb, h⟩ := h
  have f2 := AutoSeq1.sub_tuple_tuple
  wp_walk using wpAny_loadPart' hl, wpAny_loadPart' hb
  exact ⟨_, rfl, h⟩
theorem GP {t b : Addr} {ws : List Value} {Q : Value -> Shared -> Prop} (ht : IsTup s.heap t #[]) (hb : IsTup s.heap b ws.toArray) (h : Q (.ref b) s) : wpAny (model prog w) A (binaryOp .Add (.ref t) (.ref b)) Q E s := by
 obtain ⟨⟨cls, dd, data, sl⟩, ho, hc, n, hd⟩ := id ht
 obtain ⟨⟨cls2, dd2, data2, sl2⟩, ho2, hc2, n2, hd2⟩ := id hb
 simp only at hc hd hc2 hd2
 subst hc hd hc2 hd2
 exact concat_meets ⟨_, ho, rfl⟩ ⟨_, ho2, rfl⟩ noFill_tuple_add seq_tuple_add PySem.F.slot_tuple_add PySem.F.entry_tuple_add (PySem.F.args_tuple_add_2 _ _) (XX t b ws.toArray n n2 dd dd2 sl sl2) ⟨ho, ho2, h⟩
end
section
variable {X : Cx}
def G5 (K : W.Frag) : R2 := fun x y H Q => ∃ a b xs ys, x = .ref a /\ y = .ref b /\ SqT K H a xs /\ SqT K H b ys /\ xs.length + ys.length <= sizeLine ∧
 (xs = [] -> Q (.ref b) H) /\ (xs ≠ [] -> ys = [] -> Q (.ref a) H) /\ (xs ≠ [] -> ys ≠ [] -> ∀ p, H p = none -> Q (.ref p) (upd H p (.tup (xs ++ ys))))
theorem KQ : OpR X (binaryOp .Add) (G5 X.K) := by
 intro pins s σ H x y v u Q I rx ry h
 obtain ⟨a, b, xs, ys, rfl, rfl, ha, hb, hz, q0, q1, q2⟩ := h
 by_cases hx : xs = []
 ·subst hx
  cases rx
  cases ry
  obtain ⟨its, r1, p1, _⟩ := I.tuple ha
  obtain ⟨its2, r2, p2, _⟩ := I.tuple hb
  cases r1
  exact GP p1 p2 ⟨.ref b, H, I, rfl, q0 rfl⟩
 ·exact Bv pins s σ H _ _ v u Q I rx ry ⟨a, b, xs, ys, rfl, rfl, ha, hb, hx, hz, q1 hx, q2 hx⟩
def G6 (K : W.Frag) : R2 := fun x y H Q => ∃ a b xs ys, x = .ref a /\ y = .ref b /\ SqL K H a xs /\ SqL K H b ys /\ xs.length + ys.length <= sizeLine /\ ∀ p, H p = none -> Q (.ref p) (upd H p (.lst (xs ++ ys)))
theorem KR : OpR X (binaryOp .Add) (G6 X.K) := by
 intro pins s σ H x y v u Q I rx ry h
 obtain ⟨a, b, xs, ys, rfl, rfl, ha, hb, hz, q⟩ := h
 cases rx
 cases ry
 obtain ⟨its, r1, p1, _⟩ := I.list ha
 obtain ⟨its2, r2, p2, _⟩ := I.list hb
 obtain ⟨⟨cls, dd, data, sl⟩, ho, hc, n, hd⟩ := id p1.isList
 obtain ⟨⟨cls2, dd2, data2, sl2⟩, ho2, hc2, n2, hd2⟩ := id p2.isList
 simp only at hc hd hc2 hd2
 subst hc hd hc2 hd2
 have e : its.toArray ++ its2.toArray = (its ++ its2).toArray := by simp
 have hsz : its.toArray.size + its2.toArray.size <= sizeLine := by
  rw [g0p, g0p, <- r1.length, <- r2.length]; exact hz
 refine concat_meets ⟨_, ho, rfl⟩ ⟨_, ho2, rfl⟩ noFill_list_add seq_list_add PySem.F.slot_list_add PySem.F.entry_list_add (PySem.F.args_list_add_2 _ _) (list_addW a b its.toArray its2.toArray n n2 dd dd2 sl sl2 hsz) ⟨ho, ho2, ?_⟩
 rw [e]
 exact ⟨.ref _, _, I.lnew (t' := s.toks) (r1.append r2) (by rw [g0h]; exact hz), rfl, q _ I.fresh⟩
def Dz (K : W.Frag) : R2 := fun x y H Q => rI0 (fun i j => .int (i + j)) x y H Q \/ (∃ i j, x = .str i /\ y = .str j /\ i.length + j.length <= sizeLine /\ Q (.str (i ++ j)) H) \/ G5 K x y H Q \/ G6 K x y H Q
theorem Bw : OpR X (binaryOp .Add) (Dz X.K) := Fc.or (Uc.or (KQ.or KR))
def ue : D -> D -> Option D
 | .int i, .int j => some (.int (i + j))
 | .str x, .str y => if x.length + y.length <= sizeLine then some (.str (x ++ y)) else none
 | .tup xs, .tup ys => if xs.length + ys.length <= sizeLine then some (.tup (xs ++ ys)) else none
 | .lst xs, .lst ys => if xs.length + ys.length <= sizeLine then some (.lst (xs ++ ys)) else none
 | _, _ => none
theorem zP.nil_of {K : W.Frag} {H : Hp} {ds : List D} {xs : List V} (h : zP K H ds xs) : xs = [] ↔ ds = [] := by
 have := h.length
 constructor
 ·intro e; subst e; exact g2s this.symm
 ·intro e; subst e; exact g2s this
theorem qR.tupF {K : W.Frag} {Hf : Hp} {σ : St} {ρ : Rho} {ds : List D} {v : V} (h : qR K Hf σ ρ (.tup ds) v) : Has K Hf (.tup ds) v := by
 rcases h with h | ⟨_, _, e, _⟩
 ·exact h
 ·cases e
theorem KY : OpD X (Dz X.K) ue := by
 intro σ ρ H₀ Hf₀ H Hf x y dx dy d Q R hx hy hφ k
 unfold ue at hφ
 split at hφ
 ·cases hφ
  exact .inl ⟨_, _, hx.int, hy.int, k _ _ _ R zx zx (Has.int_iff.mpr rfl)⟩
 ·split at hφ
  ·cases hφ
   exact .inr (.inl ⟨_, _, hx.str, hy.str, by assumption, k _ _ _ R zx zx (Has.str_iff.mpr rfl)⟩)
  ·cases hφ
 ·split at hφ
  ·cases hφ
   rename_i xs ys hz
   obtain ⟨a, vs, rfl, qa, la⟩ := hx.tup R
   obtain ⟨b, ws, rfl, qb, lb⟩ := hy.tup R
   refine .inr (.inr (.inl ⟨a, b, vs, ws, rfl, rfl, qa, qb, by rw [la.length, lb.length]; exact hz, fun e => ?_, fun _ e => ?_, fun _ _ p hp => ?_⟩))
   ·cases la.nil_of.mp e
    exact k _ _ _ R zx zx (by rw [g0s]; exact hy.tupF)
   ·cases lb.nil_of.mp e
    exact k _ _ _ R zx zx (by rw [g0t]; exact hx.tupF)
   ·have sm := zy (o := .tup (vs ++ ws)) (R.sf.free hp)
    exact k _ _ _ (R.lay hp) (zy hp) sm (Has.tup_iff.mpr ⟨p, _, rfl, SqT.of zq, (la.append lb).mono sm⟩)
  ·cases hφ
 ·split at hφ
  ·cases hφ
   rename_i xs ys hz
   obtain ⟨a, vs, rfl, qa, la⟩ := hx.lst R
   obtain ⟨b, ws, rfl, qb, lb⟩ := hy.lst R
   refine .inr (.inr (.inr ⟨a, b, vs, ws, rfl, rfl, qa, qb, by rw [la.length, lb.length]; exact hz, fun p hp => ?_⟩))
   have sm := zy (o := .lst (vs ++ ws)) (R.sf.free hp)
   exact k _ _ _ (R.lay hp) (zy hp) sm (Has.lst_iff.mpr ⟨p, _, rfl, SqL.of zq, (la.append lb).mono sm⟩)
  ·cases hφ
 ·cases hφ
variable {a b c e : Expr} {f g h : FE} {pos p2 : Pos}
theorem xb (ha : DR X a f) (hb : DR X b g) : DE X (.BinOp a .Add b pos) (zc ue f g) := Cz Bw KY ha hb
abbrev FP := Rho -> Option (Option Int)
def noP : FP := fun _ => some none
def exP (f : FE) : FP := fun ρ => (f ρ).bind fun | .int i => some (some i) | _ => none
def tP (K : W.Frag) (f : FP) : TO := fun σ H Q => ∃ H₀ Hf₀ ρ Hf o, Rep K H₀ Hf₀ σ ρ H Hf /\ f ρ = some o /\ ∀ H' Hf', Rep K H₀ Hf₀ σ ρ H' Hf' -> yi H H' -> yi Hf Hf' -> Q o H'
def DP (X : Cx) (e : Option Expr) (f : FP) : Prop := PO X e (tP X.K f)
theorem Hc {e : Option Expr} {t t' : TO} (h : PO X e t) (i : ∀ σ H Q, t' σ H Q -> t σ H Q) : PO X e t' := fun pins s σ H Q I hw => h pins s σ H Q I (i _ _ _ hw)
theorem Cu : DP X none noP := Hc Bh fun σ H Q ⟨H₀, Hf₀, ρ, Hf, d, R, q, k⟩ => by cases q; exact k _ _ R zx zx
theorem Jp (h : DR X e f) : DP X (some e) (exP f) := Hc (Bg h) fun σ H Q ⟨H₀, Hf₀, ρ, Hf, d, R, q, k⟩ => by
 obtain ⟨x, e1, e2⟩ := zL q
 cases x <;> try cases e2
 exact ⟨H₀, Hf₀, ρ, Hf, _, R, e1, fun v H1 Hf1 R1 s1 t1 h1 => ⟨_, h1.int, k _ _ R1 s1 t1⟩⟩
def Xq {α : Type} (xs : List α) (lo hi : Option Int) : List α := (xs.drop (HT.sIx xs.length 0 lo)).take (HT.sIx xs.length xs.length hi - HT.sIx xs.length 0 lo)
theorem zP.cut {K : W.Frag} {H : Hp} {ds : List D} {xs : List V} (h : zP K H ds xs) (lo hi : Option Int) : zP K H (Xq ds lo hi) (JD xs lo hi) := by
 unfold Xq JD
 rw [h.length]
 exact (h.drop _).take _
def M3 (K : W.Frag) : V -> Option Int -> Option Int -> Hp -> VK -> Prop := fun x lo hi H Q => ∃ a xs, x = .ref a /\ SqT K H a xs ∧
 ((HT.sIx xs.length 0 lo = 0 /\ HT.sIx xs.length xs.length hi = xs.length) -> Q (.ref a) H) /\ (¬ (HT.sIx xs.length 0 lo = 0 /\ HT.sIx xs.length xs.length hi = xs.length) -> ∀ p, H p = none -> Q (.ref p) (upd H p (.tup (JD xs lo hi))))
theorem HG : SlR X (M3 X.K) := by
 intro pins s σ H x v vl vu lo hi sl Q I rx hs pl pu h
 obtain ⟨a, xs, rfl, hx, q1, q2⟩ := h
 by_cases hw : HT.sIx xs.length 0 lo = 0 /\ HT.sIx xs.length xs.length hi = xs.length
 ·cases rx
  obtain ⟨its, r, ht, hz⟩ := I.tuple hx
  have hlen : its.toArray.size = xs.length := by rw [g0p]; exact r.length.symm
  refine ⟨"tuple", _, PyProof.Rows.slot_tuple_getitem.lookup, ht.typeIs, ?_⟩
  exact jg ht hs pl pu (by rw [hlen]; exact hw) ⟨.ref a, H, I, rfl, q1 hw⟩
 ·exact Dh pins s σ H _ v vl vu lo hi sl Q I rx hs pl pu ⟨a, xs, rfl, hx, hw, q2 hw⟩
def jx (f : FE) (l u : FP) : FE := fun ρ => (f ρ).bind fun x => (l ρ).bind fun lo => (u ρ).bind fun hi => match x with
 | .tup ds => some (.tup (Xq ds lo hi))
 | .lst ds => some (.lst (Xq ds lo hi))
 | _ => none
theorem JC {ds : List D} {lo hi : Option Int} (h : HT.sIx ds.length 0 lo = 0 /\ HT.sIx ds.length ds.length hi = ds.length) : Xq ds lo hi = ds := by
 unfold Xq
 rw [h.1, h.2]
 simp
theorem Yt {lo hi : Option Expr} {l u : FP} (he : DR X e f) (hl : DP X lo l) (hu : DP X hi u) : DE X (.Subscript e (.Slice lo hi none p2) pos) (jx f l u) :=
 yy (KH (HG.or HH) he hl hu) fun σ H Q ⟨H₀, Hf₀, ρ, Hf, d, R, q, k⟩ => by
  obtain ⟨x, e1, e2⟩ := zL q
  cases e3 : l ρ with
  | none => rw [e3] at e2; cases e2
  | some lo =>
   rw [e3] at e2
   cases e4 : u ρ with
   | none => rw [e4] at e2; cases e2
   | some hi =>
    rw [e4] at e2
    simp only [g0a] at e2
    refine ⟨H₀, Hf₀, ρ, Hf, x, R, e1, fun v H1 Hf1 R1 s1 t1 h1 => ⟨H₀, Hf₀, ρ, Hf1, lo, R1, e3, fun H2 Hf2 R2 s2 t2 => ⟨H₀, Hf₀, ρ, Hf2, hi, R2, e4, fun H3 Hf3 R3 s3 t3 => ?_⟩⟩⟩
    have h3 := (h1.mono t2).mono t3
    have ss := (s1.trans s2).trans s3
    have tt := (t1.trans t2).trans t3
    split at e2
    ·cases e2
     obtain ⟨a, xs, rfl, qa, la⟩ := h3.tup R3
     refine .inl ⟨a, xs, rfl, qa, fun hw => ?_, fun hw p hp => ?_⟩
     ·rw [la.length] at hw
      exact k _ _ _ R3 ss tt (by rw [JC hw]; exact h3.tupF)
     ·have sm := zy (o := .tup (JD xs lo hi)) (R3.sf.free hp)
      exact k _ _ _ (R3.lay hp) (ss.trans (zy hp)) (tt.trans sm) (Has.tup_iff.mpr ⟨p, _, rfl, SqT.of zq, (la.cut lo hi).mono sm⟩)
    ·cases e2
     obtain ⟨a, xs, rfl, qa, la⟩ := h3.lst R3
     refine .inr ⟨a, xs, rfl, qa, fun p hp => ?_⟩
     have sm := zy (o := .lst (JD xs lo hi)) (R3.sf.free hp)
     exact k _ _ _ (R3.lay hp) (ss.trans (zy hp)) (tt.trans sm) (Has.lst_iff.mpr ⟨p, _, rfl, SqL.of zq, (la.cut lo hi).mono sm⟩)
    ·cases e2
section
variable {X : Cx} {a b c e st : Expr} {f g h fs : FE} {pos p2 : Pos}
theorem ZV {α : Type} {f g : FE} {k : D -> D -> Option α} {ρ : Rho} {r : α} (h : ((f ρ).bind fun x => (g ρ).bind fun y => k x y) = some r) : ∃ x y, f ρ = some x /\ g ρ = some y /\ k x y = some r := by
 obtain ⟨x, e1, e2⟩ := zL h
 obtain ⟨y, e3, e4⟩ := zL e2
 exact ⟨x, y, e1, e3, e4⟩
def ql : List D -> Option D
 | [.lst ds] => some (.tup ds)
 | [.tup ds] => some (.tup ds)
 | _ => none
theorem qC : FnR X (fun xs H Q => ∃ p ys, xs = [.ref p] /\ ((SqL X.K H p ys /\ ∀ l, H l = none -> Q (.ref l) (upd H l (.tup ys))) \/ (SqT X.K H p ys /\ Q (.ref p) H))) ql := by
 intro σ ρ H₀ Hf₀ H Hf xs ds d Q R hx hφ k
 unfold ql at hφ
 split at hφ
 ·cases hφ
  obtain ⟨v, rfl, hv⟩ := hx.one
  obtain ⟨a, ys, rfl, q, l⟩ := hv.lst R
  refine ⟨a, ys, rfl, .inl ⟨q, fun p hp => ?_⟩⟩
  have sm := zy (o := .tup ys) (R.sf.free hp)
  exact k _ _ _ (R.lay hp) (zy hp) sm (Has.tup_iff.mpr ⟨p, _, rfl, SqT.of zq, l.mono sm⟩)
 ·cases hφ
  obtain ⟨v, rfl, hv⟩ := hx.one
  obtain ⟨a, ys, rfl, q, l⟩ := hv.tup R
  exact ⟨a, ys, rfl, .inr ⟨q, k _ _ _ R zx zx hv.tupF⟩⟩
 ·cases hφ
def BR (fa : FA) : FA := fun ρ => (fa ρ).bind fun l => match l with
 | [.lst ds] => some ds
 | [.tup ds] => some ds
 | _ => none
theorem Cv {es : List Expr} {fa : FA} {p : Pos} (hg : Gl X "list") (hm : X.mg "list" = none) (ha : DAR X (e :: es) fa)
  (he : starEach (e :: es) X.env = (false, eval e X.env) :: starEach es X.env := by rfl) (hpl : (backTo pos (starEach es X.env)).any (·.1) = false := by rfl) : DN X (.Call (.Name "list" p) (e :: es) [] pos) (BR fa) :=
 yy (vA (T := "list") Xw hg hm (by rfl) ha (by decide) (by decide) he hpl) fun σ H Q ⟨H₀, Hf₀, ρ, Hf, d, R, q, k⟩ => by
  obtain ⟨l, e1, e2⟩ := yp q
  refine ⟨H₀, Hf₀, ρ, Hf, l, R, e1, fun vs H1 Hf1 R1 s1 t1 h1 => ?_⟩
  split at e2
  ·cases e2
   obtain ⟨v, rfl, hv⟩ := kZ.one h1
   obtain ⟨a, ys, rfl, q, l⟩ := hv.lst R1
   exact ⟨a, ys, rfl, .inl q, fun p hp => k _ _ _ _ (R1.layN hp) (s1.trans (zy hp)) t1 l zq (R1.sf.free hp) (s1.free hp)⟩
  ·cases e2
   obtain ⟨v, rfl, hv⟩ := kZ.one h1
   obtain ⟨a, ys, rfl, q, l⟩ := hv.tup R1
   exact ⟨a, ys, rfl, .inr q, fun p hp => k _ _ _ _ (R1.layN hp) (s1.trans (zy hp)) t1 l zq (R1.sf.free hp) (s1.free hp)⟩
  ·cases e2
end
end
theorem Kx {y y' : V} {u : Value} {K : W.Frag} {H : Hp} {d d' : D} (h : Has K H d y) (h' : Has K H d' y') (r : yV y u) (r' : yV y' u) : y = y' := by
 cases d with
 | non =>
  cases Has.non_iff.mp h
  cases r
  cases d' with
  | non => cases Has.non_iff.mp h'; rfl
  | bl _ => cases Has.bl_iff.mp h'; cases r'
  | int _ => cases Has.int_iff.mp h'; obtain ⟨t, e⟩ := r'; cases e
  | str _ => cases Has.str_iff.mp h'; obtain ⟨t, e⟩ := r'; cases e
  | tup _ => obtain ⟨_, _, rfl, _⟩ := Has.tup_iff.mp h'; cases r'
  | lst _ => obtain ⟨_, _, rfl, _⟩ := Has.lst_iff.mp h'; cases r'
 | bl b =>
  cases Has.bl_iff.mp h
  cases r
  cases d' with
  | non => cases Has.non_iff.mp h'; cases r'
  | bl _ => cases Has.bl_iff.mp h'; cases r'; rfl
  | int _ => cases Has.int_iff.mp h'; obtain ⟨t, e⟩ := r'; cases e
  | str _ => cases Has.str_iff.mp h'; obtain ⟨t, e⟩ := r'; cases e
  | tup _ => obtain ⟨_, _, rfl, _⟩ := Has.tup_iff.mp h'; cases r'
  | lst _ => obtain ⟨_, _, rfl, _⟩ := Has.lst_iff.mp h'; cases r'
 | int b =>
  cases Has.int_iff.mp h
  obtain ⟨t0, rfl⟩ := r
  cases d' with
  | non => cases Has.non_iff.mp h'; cases r'
  | bl _ => cases Has.bl_iff.mp h'; cases r'
  | int _ => cases Has.int_iff.mp h'; obtain ⟨t, e⟩ := r'; cases e; rfl
  | str _ => cases Has.str_iff.mp h'; obtain ⟨t, e⟩ := r'; cases e
  | tup _ => obtain ⟨_, _, rfl, _⟩ := Has.tup_iff.mp h'; cases r'
  | lst _ => obtain ⟨_, _, rfl, _⟩ := Has.lst_iff.mp h'; cases r'
 | str b =>
  cases Has.str_iff.mp h
  obtain ⟨t0, rfl⟩ := r
  cases d' with
  | non => cases Has.non_iff.mp h'; cases r'
  | bl _ => cases Has.bl_iff.mp h'; cases r'
  | int _ => cases Has.int_iff.mp h'; obtain ⟨t, e⟩ := r'; cases e
  | str _ => cases Has.str_iff.mp h'; obtain ⟨t, e⟩ := r'; cases e; rfl
  | tup _ => obtain ⟨_, _, rfl, _⟩ := Has.tup_iff.mp h'; cases r'
  | lst _ => obtain ⟨_, _, rfl, _⟩ := Has.lst_iff.mp h'; cases r'
 | tup ds =>
  obtain ⟨a, _, rfl, _⟩ := Has.tup_iff.mp h
  cases r
  cases d' with
  | non => cases Has.non_iff.mp h'; cases r'
  | bl _ => cases Has.bl_iff.mp h'; cases r'
  | int _ => cases Has.int_iff.mp h'; obtain ⟨t, e⟩ := r'; cases e
  | str _ => cases Has.str_iff.mp h'; obtain ⟨t, e⟩ := r'; cases e
  | tup _ => obtain ⟨_, _, rfl, _⟩ := Has.tup_iff.mp h'; cases r'; rfl
  | lst _ => obtain ⟨_, _, rfl, _⟩ := Has.lst_iff.mp h'; cases r'; rfl
 | lst ds =>
  obtain ⟨a, _, rfl, _⟩ := Has.lst_iff.mp h
  cases r
  cases d' with
  | non => cases Has.non_iff.mp h'; cases r'
  | bl _ => cases Has.bl_iff.mp h'; cases r'
  | int _ => cases Has.int_iff.mp h'; obtain ⟨t, e⟩ := r'; cases e
  | str _ => cases Has.str_iff.mp h'; obtain ⟨t, e⟩ := r'; cases e
  | tup _ => obtain ⟨_, _, rfl, _⟩ := Has.tup_iff.mp h'; cases r'; rfl
  | lst _ => obtain ⟨_, _, rfl, _⟩ := Has.lst_iff.mp h'; cases r'; rfl
open Classical in
noncomputable def XO (K : W.Frag) (H : Hp) (dx : D) (u : Value) : Bool := decide (∃ d y, yV y u /\ Has K H d y /\ eqD d dx = true)
section
variable {X : Cx} {pins : List (Addr × Obj)} {σ : St} {H : Hp} {s : Shared}
open Classical in
theorem JR (I : Inv X pins σ H s) {dx d : D} {y : V} {u : Value} (r : yV y u) (h : Has X.K H d y) : XO X.K H dx u = eqD d dx := by
 unfold XO
 cases hq : eqD d dx with
 | true => exact decide_eq_true ⟨d, y, r, h, hq⟩
 | false =>
  refine decide_eq_false ?_
  rintro ⟨d', y', r', h', e'⟩
  cases Kx h' h r' r
  cases Has.inj I h' h
  rw [hq] at e'; cases e'
theorem qN (I : Inv X pins σ H s) {dx : D} : ∀ {ds : List D} {xs : List V} {us : List Value}, zP X.K H ds xs -> yP xs us -> us.any (XO X.K H dx) = ds.any fun d => eqD d dx
 | [], _, _, h, r => by rw [zP.nil_iff] at h; subst h; cases r; rfl
 | d :: ds, _, _, h, r => by
  obtain ⟨x, xr, rfl, h1, h2⟩ := zP.cons_iff.mp h
  cases r with
  | cons r rr => rw [g2p, g2p, JR I r h1, qN I h2 rr]
theorem qy (I : Inv X pins σ H s) {A : Around} {dx : D} {x : V} {v : Value} (hx : Has X.K H dx x) (rx : yV x v) : ∀ {ds : List D} {xs : List V} {us : List Value}, zP X.K H ds xs -> yP xs us -> A.units + uN ds < cLine -> ∀ u ∈ us, SeqAt.EqAt A s u v (XO X.K H dx u)
 | [], _, _, h, r, _ => by rw [zP.nil_iff] at h; subst h; cases r; intro u hu; cases hu
 | d :: ds, _, _, h, r, hu => by
  obtain ⟨y, yr, rfl, h1, h2⟩ := zP.cons_iff.mp h
  unfold uN at hu
  cases r with
  | cons r rr =>
   intro u' hu'
   rcases g0n.mp hu' with rfl | hm
   ·rw [JR I r h1]
    exact Ji I d A dx y x _ v h1 hx r rx (by have := Nat.le_max_left (dep d) (uN ds); omega)
   ·exact qy I hx rx h2 rr (by have := Nat.le_max_right (dep d) (uN ds); omega) u' hm
end
section
variable {X : Cx} {e a b c : Expr} {f g h : FE} {pos p2 : Pos} {kk : Nat}
def inS (x z : Str) : Bool := !(Builtin.Str.occurrences z x 0 z.length 1).isEmpty
def M6 (K : W.Frag) (neg : Bool) : R2 := fun x y H Q => (∃ p ds xs dx, y = .ref p /\ (SqL K H p xs \/ SqT K H p xs) /\ zP K H ds xs /\ Has K H dx x /\ uN ds <= 100 /\ Q (.bl (xor neg (ds.any fun d => eqD d dx))) H) ∨
 (∃ i j, x = .str i /\ y = .str j /\ Q (.bl (xor neg (inS i j))) H)
theorem He (hr : Room kk X.A) : OpR X (compareOp .In) (M6 X.K false) := by
 intro pins s σ H x y v u Q I rx ry h
 rcases h with ⟨p, ds, xs, dx, rfl, hq, hl, hx, hd, q⟩ | h
 ·cases ry
  have hu : X.A.in1.units + uN ds < cLine := by show X.A.units + 1 + uN ds < cLine; have := hr.un; omega
  simp only [Bool.false_xor] at q
  rcases hq with hq | hq
  ·obtain ⟨its, r, pl, hz⟩ := I.list hq
   refine SeqAt.in_listAt (XO X.K H dx) pl.isList (fun w hw => qy I hx rx hl r hu w (by simpa using hw)) ⟨.bl _, H, I, rfl, ?_⟩
   rw [show its.toArray.any (XO X.K H dx) = its.any (XO X.K H dx) by simp, qN I hl r]
   exact q
  ·obtain ⟨its, r, pl, hz⟩ := I.tuple hq
   refine SeqAt.in_tupleAt (XO X.K H dx) pl (fun w hw => qy I hx rx hl r hu w (by simpa using hw)) ⟨.bl _, H, I, rfl, ?_⟩
   rw [show its.toArray.any (XO X.K H dx) = its.any (XO X.K H dx) by simp, qN I hl r]
   exact q
 ·obtain ⟨i, j, e1, e2, q⟩ := h
  exact Qv pins s σ H x y v u Q I rx ry ⟨i, j, e1, e2, by simpa [inS] using q⟩
theorem Y0 (hr : Room kk X.A) : OpR X (compareOp .NotIn) (M6 X.K true) := by
 intro pins s σ H x y v u Q I rx ry h
 rcases h with ⟨p, ds, xs, dx, rfl, hq, hl, hx, hd, q⟩ | h
 ·cases ry
  have hu : X.A.in1.units + uN ds < cLine := by show X.A.units + 1 + uN ds < cLine; have := hr.un; omega
  simp only [Bool.true_xor] at q
  rcases hq with hq | hq
  ·obtain ⟨its, r, pl, hz⟩ := I.list hq
   refine SeqAt.notIn_listAt (XO X.K H dx) pl.isList (fun w hw => qy I hx rx hl r hu w (by simpa using hw)) ⟨.bl _, H, I, rfl, ?_⟩
   rw [show its.toArray.any (XO X.K H dx) = its.any (XO X.K H dx) by simp, qN I hl r]
   exact q
  ·obtain ⟨its, r, pl, hz⟩ := I.tuple hq
   refine SeqAt.notIn_tupleAt (XO X.K H dx) pl (fun w hw => qy I hx rx hl r hu w (by simpa using hw)) ⟨.bl _, H, I, rfl, ?_⟩
   rw [show its.toArray.any (XO X.K H dx) = its.any (XO X.K H dx) by simp, qN I hl r]
   exact q
 ·obtain ⟨i, j, e1, e2, q⟩ := h
  exact YZ pins s σ H x y v u Q I rx ry ⟨i, j, e1, e2, by simpa [inS] using q⟩
def inD (neg : Bool) : D -> D -> Option D
 | x, .lst ds => if uN ds <= 100 then some (.bl (xor neg (ds.any fun d => eqD d x))) else none
 | x, .tup ds => if uN ds <= 100 then some (.bl (xor neg (ds.any fun d => eqD d x))) else none
 | .str x, .str z => some (.bl (xor neg (inS x z)))
 | _, _ => none
theorem Ve {neg : Bool} : OpD X (M6 X.K neg) (inD neg) := by
 intro σ ρ H₀ Hf₀ H Hf x y dx dy d Q R hx hy hφ k
 unfold inD at hφ
 split at hφ
 ·split at hφ
  ·cases hφ
   rename_i hd
   obtain ⟨a, xs, rfl, qa, la⟩ := hy.lst R
   exact .inl ⟨a, _, xs, dx, rfl, .inl qa, la.mono R.sf, hx.full R, hd, k _ _ _ R zx zx (Has.bl_iff.mpr rfl)⟩
  ·cases hφ
 ·split at hφ
  ·cases hφ
   rename_i hd
   obtain ⟨a, xs, rfl, qa, la⟩ := hy.tup R
   exact .inl ⟨a, _, xs, dx, rfl, .inr qa, la.mono R.sf, hx.full R, hd, k _ _ _ R zx zx (Has.bl_iff.mpr rfl)⟩
  ·cases hφ
 ·cases hφ
  exact .inr ⟨_, _, hx.str, hy.str, k _ _ _ R zx zx (Has.bl_iff.mpr rfl)⟩
 ·cases hφ
theorem N4 (hr : Room kk X.A) (ha : DR X a f) (hb : DR X b g) (hm : behindInMarks .In b = false := by rfl) : DE X (.Compare a [.In] [b] pos) (zc (inD false) f g) := CF (He hr) Ve ha hb hm
theorem CB (hr : Room kk X.A) (ha : DR X a f) (hb : DR X b g) (hm : behindInMarks .NotIn b = false := by rfl) : DE X (.Compare a [.NotIn] [b] pos) (zc (inD true) f g) := CF (Y0 hr) Ve ha hb hm
theorem FZ (hr : Room kk X.A) (ha : DR X a f) (hb : DR X b g) (hm : behindInMarks .In b = false := by rfl) : DT X (.Compare a [.In] [b] pos) (blF (zc (inD false) f g)) := xH (He hr) Ve ha hb hm
theorem GD (hr : Room kk X.A) (ha : DR X a f) (hb : DR X b g) (hm : behindInMarks .NotIn b = false := by rfl) : DT X (.Compare a [.NotIn] [b] pos) (blF (zc (inD true) f g)) := xH (Y0 hr) Ve ha hb hm
structure GTup (K : W.Frag) (mg : Str -> Option Value) (x : Str) (ds : List D) : Prop where
 ex : ∃ a, mg x = some (.ref a) /\ Has K (fun _ => none) (.tup ds) (.ref a)
theorem j7 {H : Hp} : yi (fun _ => none) H := fun _ _ e => by cases e
theorem JB {x : Str} {ds : List D} (hg : Gl X x) (hm : GTup X.K X.mg x ds) (hd : (x == ("__debug__" : Str)) = false := by decide) : DE X (.Name x pos) (cF (.tup ds)) := by
 obtain ⟨a, h1, h2⟩ := hm.ex
 exact yy (Ye (v := .ref a) hg h1 rfl hd) fun σ H Q ⟨H₀, Hf₀, ρ, Hf, d', R, q, k⟩ => by
  cases q
  exact k _ _ _ R zx zx (h2.mono j7)
theorem Q6 {K : W.Frag} {mg : Str -> Option Value} {x : Str} {ds : List D} {a : Addr} {xs : List V} {its : Array Value} {od : Option Addr} {n : Nat} {osl : Array (Option Value)} (h1 : mg x = some (.ref a)) (h2 : K.lookup a = some ⟨.type "tuple", od, .seq its n, osl⟩) (hz : its.size <= sizeLine) (hv : yP xs its.toList) (hl : zP K (fun _ => none) ds xs) : GTup K mg x ds :=
 ⟨a, h1, Has.tup_iff.mpr ⟨a, xs, rfl, .inr ⟨_, its, n, h2, rfl, rfl, hz, hv⟩, hl⟩⟩
structure GDict (K : W.Frag) (mg : Str -> Option Value) (x : Str) (kvs : List (Int × D)) : Prop where
 ex : ∃ (a : Addr) (o : Obj) (es : Array DictEntry) (ep : Nat) (vs : List (Int × Value)), mg x = some (.ref a) /\ K.lookup a = some o /\ o.ExactDict /\ o.data = .dict es ep /\ (∀ P w, KeysOf (intKind P w) es /\ Pairs (intKind P w) es.toList vs) /\ (vs.map (·.1)).Nodup ∧
  ∀ k d, kvs.lookup k = some d -> ∃ u v, valueAt vs k = some u /\ yV v u /\ Has K (fun _ => none) d v
def je (kvs : List (Int × D)) : D -> Option D
 | .int k => kvs.lookup k
 | _ => none
theorem CD {x : Str} {i : Expr} {kvs : List (Int × D)} {p : Pos} (hg : Gl X x) (hm : GDict X.K X.mg x kvs) (hi : DR X i f) (hs : N6 i := by intro _ _; rfl) (hd : (x == ("__debug__" : Str)) = false := by decide) : DE X (.Subscript (.Name x p) i pos) (wG (je kvs) f) := by
 obtain ⟨a, o, es, ep, vs, h1, h2, h3, h4, h5, h6, h7⟩ := hm.ex
 intro pins s σ H Q I h
 obtain ⟨H₀, Hf₀, ρ, Hf, d, R, q, k⟩ := h
 obtain ⟨y, e1, e2⟩ := zL q
 unfold je at e2
 split at e2
 ·rename_i n
  obtain ⟨u, v, q1, q2, q3⟩ := h7 n d e2
  refine HF PySem.F.slot_dict_getitem.lookup hs (thn (Ye (v := .ref a) hg h1 rfl hd pins s σ H (fun x H1 => x = .ref a /\ H1 = H) I ⟨rfl, rfl⟩) fun u0 s1 ⟨x, H1, I1, rx, ex, eH⟩ => ?_)
  subst ex eH
  cases rx
  refine thn (hi pins s1 σ H1 (fun y H2 => y = .int n /\ ∃ Hf2, Rep X.K H₀ Hf₀ σ ρ H2 Hf2 /\ yi H1 H2 /\ yi Hf Hf2) I1 ⟨H₀, Hf₀, ρ, Hf, _, R, e1, fun v H1 Hf1 R1 s1 t1 h1 => ⟨h1.int, Hf1, R1, s1, t1⟩⟩) fun iv s2 ⟨y, H2, I2, ry, ey, Hf2, R2, s2', t2⟩ => ?_
  subst ey
  obtain ⟨t, rfl⟩ := ry
  have hb := I2.kIn a o h2
  have hdo : s2.heap.DictOf (intKind X.prog X.w) a vs := ⟨o, es, ep, hb, h3, h4, (h5 _ _).1, (h5 _ _).2, h6⟩
  refine ⟨⟨o, hb, h3.1⟩, wpAny_getItem_of (knd := intKind X.prog X.w) (k := n) (by show Value.isInt n (.int n t) = true; simp [Value.isInt]) hdo.mapOf q1 ⟨v, H2, I2.tok _, q2, ?_⟩⟩
  exact k _ _ _ R2 s2' t2 (q3.mono j7)
 ·cases e2
end
theorem YY : Manifest.owners.lookup (String.ofList ['d', 'e', 's', 'r', 'e', 'v', 'e', 'r'].reverse) = some Manifest.sig_reversed := by kernel_rfl
theorem xD : PySem.Slot "reversed" "__next__" "reversed.__next__" :=
 .of (owner := "reversed") (n := "__next__") (by rw [typeLookup_type, builtinLookup_eq_fast]; kernel_rfl) (by decide +kernel) (by decide +kernel) (by decide +kernel)
  (by first | exact .inl (by decide +kernel) | exact .inr (by decide +kernel)) (by rw [isSubtype_type]; kernel_rfl)
theorem uW : entryFor table "reversed.__next__" = some Builtin.«reversed.__next__» := entryFor_of_tree (by kernel_rfl)
theorem qM (a : Value) : argsOk "reversed.__next__" ⟨[a], []⟩ := by
 unfold argsOk; rw [signature?_of (id := "reversed.__next__") (n := ['_', '_', 't', 'x', 'e', 'n', '_', '_']) (o := ['d', 'e', 's', 'r', 'e', 'v', 'e', 'r']) (by kernel_rfl) YY]; kernel_rfl
theorem qm : PySem.Slot "reversed" "__iter__" "reversed.__iter__" :=
 .of (owner := "reversed") (n := "__iter__") (by rw [typeLookup_type, builtinLookup_eq_fast]; kernel_rfl) (by decide +kernel) (by decide +kernel) (by decide +kernel)
  (by first | exact .inl (by decide +kernel) | exact .inr (by decide +kernel)) (by rw [isSubtype_type]; kernel_rfl)
theorem Yz (a : Value) : argsOk "reversed.__iter__" ⟨[a], []⟩ := by
 unfold argsOk; rw [signature?_of (id := "reversed.__iter__") (n := ['_', '_', 'r', 'e', 't', 'i', '_', '_']) (o := ['d', 'e', 's', 'r', 'e', 'v', 'e', 'r']) (by kernel_rfl) YY]; kernel_rfl
theorem Zn : entryFor table "reversed.__iter__" = some Builtin.«dict_keyiterator.__iter__» :=
 entryFor_alias (id' := "dict_keyiterator.__iter__") (by kernel_rfl) (by first | rfl | decide +kernel | (unfold String.splitOn; simp +decide [String.splitOnAux])) (by decide +kernel) (by kernel_rfl)
theorem Z5 : PySem.Slot "reversed" "__init__" "object.__init__" :=
 .of (owner := "object") (n := "__init__") (by rw [typeLookup_type, builtinLookup_eq_fast]; kernel_rfl) (by decide +kernel) (by decide +kernel) (by decide +kernel)
  (by first | exact .inl (by decide +kernel) | exact .inr (by decide +kernel)) (by rw [isSubtype_type]; kernel_rfl)
theorem UF : TypeCalled "reversed" "reversed.__new__" "object.__init__" :=
 ⟨by decide +kernel, by decide +kernel, ⟨_, _, F.mro_reversed⟩, F.made_reversed, by decide +kernel, by rw [isSubtype_type]; kernel_rfl, Z5⟩
theorem qS : typeLookup (.type "tuple") "__reversed__" = pure none := by rw [typeLookup_type, builtinLookup_eq_fast]; kernel_rfl
theorem Zj : isSubtype (.type "tuple") (.type "dict") = pure false := by rw [isSubtype_type]; kernel_rfl
abbrev WG (h : Heap) (r t : Addr) (i : Int) : Prop := h.get? r = some { cls := .type "reversed", dict := none, data := .fields #[.ref t, rawInt i], slots := #[] }
section
variable {prog : Program} {w : World} {A : Around} {E : Value -> Shared -> Prop} {s : Shared}
theorem Yk {r t : Addr} {i : Nat} {items : Array Value} {x : Value} {Q : Value -> Shared -> Prop} (hr : WG s.heap r t (i : Int)) (ht : IsTup s.heap t items) (hx : items[i]? = some x) (hz : items.size <= sizeLine)
  (hQ : ∀ h', WG h' r t ((i : Int) - 1) -> Heap.SameBut r s.heap h' -> Q x { s with heap := h', toks := s.toks + 1 }) : wpAny (model prog w) A (Builtin.«reversed.__next__» ⟨[.ref r], []⟩) (fun fin s' => ∃ v, fin = .done (.ret v) /\ Q v s') E s := by
 have hi : i < items.size := (Array.getElem?_eq_some_iff.mp hx).1
 have hn := jG
 show wpAny _ _ (field (.ref r) 0 >>= _) _ _ _
 refine wpAny_bind (wpAny_field hr rfl (x := .ref t) rfl ?_)
 show wpAny _ _ (field (.ref r) 1 >>= _) _ _ _
 refine wpAny_bind (wpAny_field hr rfl (x := rawInt (i : Int)) rfl ?_)
 show wpAny _ _ (if ((i : Int) < 0) then _ else _) _ _ _
 rw [if_neg (by omega)]
 refine wpAny_bind (wpAny_specialOf ht.typeIs PyProof.Rows.slot_tuple_getitem.lookup ?_)
 show wpAny _ _ (if (false = true) then _ else _) _ _ _
 rw [if_neg g1n]
 show wpAny _ _ (mkInt (i : Int) >>= _) _ _ _
 refine wpAny_bind (wpAny_mkInt ?_)
 refine wpAny_bind (wpAny_attempt ?_)
 refine getItem_tuple (j := i) ht (by omega) (by omega) (seqIndex_of (by omega) (by omega)) hx ?_
 show wpAny _ _ (field (.ref r) 1 >>= _) _ _ _
 refine wpAny_bind (wpAny_field (s := { s with toks := s.toks + 1 }) hr rfl (x := rawInt (i : Int)) rfl ?_)
 refine wpAny_bind (wpAny_setField_rec (s := { s with toks := s.toks + 1 }) hr (by simp) fun h₁ hr₁ hs₁ => ?_)
 exact wpAny_pure ⟨_, rfl, hQ h₁ hr₁ hs₁⟩
theorem Y3 {r t : Addr} {i : Int} {Q : Fin -> Shared -> Prop} (hh : A.handled = none) (hr : WG s.heap r t i) (hi : i < 0)
  (hE : ∀ h' e, Heap.ExtBut r s.heap h' -> (∃ o, h'.get? e = some o /\ o.cls = .type "StopIteration") -> E (.ref e) { s with heap := h' }) : wpAny (model prog w) A (Builtin.«reversed.__next__» ⟨[.ref r], []⟩) Q E s := by
 show wpAny _ _ (field (.ref r) 0 >>= _) _ _ _
 refine wpAny_bind (wpAny_field hr rfl (x := .ref t) rfl ?_)
 show wpAny _ _ (field (.ref r) 1 >>= _) _ _ _
 refine wpAny_bind (wpAny_field hr rfl (x := rawInt i) rfl ?_)
 show wpAny _ _ (if (i < 0) then _ else _) _ _ _
 rw [if_pos hi]
 refine wpAny_bind (wpAny_rule ?_)
 refine wpAny_bind ?_
 show wpAny _ _ (setField (.ref r) 1 (rawInt (-1)) >>= fun _ => setField (.ref r) 0 .none) _ _ _
 refine wpAny_bind (wpAny_setField_rec hr (by simp) fun h₁ hr₁ hs₁ => ?_)
 refine wpAny_setField_rec hr₁ (by simp) fun h₂ hr₂ hs₂ => ?_
 refine wpAny_bind ?_
 show wpAny _ _ (newExc (.type "StopIteration") [] >>= _) _ _ _
 refine wpAny_bind ?_
 simp only [newExc, newTuple]
 refine wpAny_bind (wpAny_newObj_type ?_ (by size_fits))
 refine wpAny_bind (m := firstArgMember _ _) (wpAny_of_eq (a := Value.none) (by first | rfl | (simp only [firstArgMember]; rfl)) ?_)
 refine wpAny_newObj_type ?_ (by size_fits)
 simp only [raiseNew]
 refine wpAny_bind (wpAny_handled ?_)
 first | rw [show A.in1.handled = none from hh] | rw [hh]
 refine wpAny_bind (wpAny_pure (wpAny_throw ?_))
 exact hE _ _ (fun b o hb e => Heap.get?_push_of_some _ (Heap.get?_push_of_some _ ((hs₂.2 b hb).trans ((hs₁.2 b hb).trans e)))) ⟨_, Heap.get?_push_size _ rfl, rfl⟩
theorem QK (t : Addr) (items : Array Value) (hfit : (items.size : Int) < 2 ^ 63) : Meets (Builtin.«reversed.__new__» ⟨[.type "reversed", .ref t], []⟩) (fun _ R s => IsTup s.heap t items ∧
  R (.ok (.ret (.ref s.heap.objs.size))) { s with heap := s.heap.push { cls := .type "reversed", data := .fields #[.ref t, rawInt ((items.size : Int) - 1)] }, toks := s.toks + 1 + 1 }) :=
 .of_wp fun prog w A R s h => by
  obtain ⟨ht, h⟩ := h
  unfold Builtin.«reversed.__new__»
  refine wpAny_bind (wpAny_of_eq (newClass_reversed _) ?_)
  try dsimp only
  refine wpAny_bind (wpAny_of_eq (a := ()) (by first | rfl | kernel_rfl) ?_)
  refine wpAny_bind (wpAny_of_eq (a := ()) (by first | rfl | kernel_rfl) ?_)
  try dsimp only
  refine wpAny_bind (wpAny_specialOf ht.typeIs qS ?_)
  try dsimp only
  refine wpAny_bind ?_
  show wpAny _ _ (isInstance (.ref t) (.type "dict") >>= _) _ _ _
  refine wpAny_bind (wpAny_isInstance ht.typeIs Zj ?_)
  show wpAny _ _ (if (false = true) then _ else _) _ _ _
  rw [if_neg g1n]
  refine wpAny_bind (wpAny_specialOf ht.typeIs PyProof.Rows.slot_tuple_getitem.lookup ?_)
  try dsimp only
  rw [if_pos (by decide)]
  refine wpAny_pure ?_
  show wpAny _ _ (if (false = true) then _ else _) _ _ _
  rw [if_neg g1n]
  refine wpAny_bind (len_tuple ht hfit ?_)
  refine wpAny_bind (wpAny_of_eq (a := some (items.size : Int)) rfl ?_)
  try dsimp only
  refine wpAny_bind ?_
  show wpAny _ _ (newObj (.type "reversed") (.fields #[.ref t, rawInt ((items.size : Int) - 1)])) _ _ _
  exact wpAny_newObj_type (wpAny_pure ⟨_, rfl, h⟩)
theorem GS {t : Addr} {items : Array Value} {Q : Value -> Shared -> Prop} (ht : IsTup s.heap t items) (hfit : (items.size : Int) < 2 ^ 63)
  (h : Q (.ref s.heap.objs.size) { s with heap := s.heap.push { cls := .type "reversed", data := .fields #[.ref t, rawInt ((items.size : Int) - 1)] }, toks := s.toks + 1 + 1 }) : wpAny (model prog w) A (call (.type "reversed") [.ref t]) Q E s :=
 callType_new UF (by decide) (F.typeCall_reversed_1 _) (F.newCall_reversed_1 _) (fun obj => F.args_object_init_2 obj _) F.entry_reversed_new (QK t items hfit) ⟨ht, ⟨_, Heap.get?_push_size _ rfl, rfl⟩, h⟩
theorem ZG {r t : Addr} {i : Int} {Q : Value -> Shared -> Prop} (he : WG s.heap r t i) (h : Q (.ref r) s) : wpAny (model prog w) A (pyIter (.ref r)) Q E s := by
 have hT : s.TypeIs (.ref r) "reversed" := ⟨_, he, rfl⟩
 refine wpAny_pyIter_slot hT qm (wpAny_call_entry qm hT Zn ?_ (Yz _))
 show wpAny _ _ (ret (.ref r)) _ _ s
 exact wpAny_pure ⟨_, rfl, "reversed", _, hT, xD.lookup, h⟩
end
def ItB (K : W.Frag) (a : Addr) (n : Nat) : It :=
 ⟨fun i H => ∃ xs x, SqT K H a xs /\ xs.length = n /\ xs.reverse[i]? = some x, fun i H x H' => H' = H /\ ∀ xs, SqT K H a xs -> xs.reverse[i]? = some x, fun i H => ∃ xs, SqT K H a xs /\ xs.length = n /\ n <= i⟩
theorem Kb {P : Program} {w : World} {K : W.Frag} {tg : Expr} (a r : Addr) (n : Nat) : Turn P w K tg (ItB K a n) [r] r (fun i h => WG h r a ((n : Int) - 1 - i)) where
 mem := by simp
 obj := fun i h st b hb => by
  have e : b = r := by simpa using hb
  subst e
  exact ⟨_, st, fun v z => by cases z⟩
 keep := fun i h h' st k => k r (by simp) _ st
 item := by
  intro X hP hw hK hc i pins s σ H E I hf st hg
  subst hP hw hK
  obtain ⟨xs, x, hq, hn, hx⟩ := hg
  obtain ⟨its, rv, p, hz⟩ := I.tuple hq
  have hl := rv.length
  have hi : i < xs.length := by have := (g1a.mp hx).1; simpa using this
  have hx' : xs[xs.length - 1 - i]? = some x := by rw [List.getElem?_reverse hi] at hx; exact hx
  obtain ⟨u, hu, ru⟩ := rv.get hx'
  have fr := hf r (by simp)
  have hT : s.TypeIs (.ref r) "reversed" := ⟨_, st, rfl⟩
  have hk : ((n : Int) - 1 - i) = ((xs.length - 1 - i : Nat) : Int) := by omega
  rw [hk] at st
  unfold pyNext
  refine wpAny_bind (wpAny_attempt (wpAny_callSpecial?_slot (name := Str.ofString "__next__") hT xD (wpAny_call_entry xD hT uW
   (Yk st p (x := u) (by simpa using hu) (by rw [g0p, <- hl]; exact hz) fun h' st' sb => wpAny_pure ?_) (qM _))))
  have I1 : Inv X pins σ H { s with heap := h', toks := s.toks + 1 } := uf (t' := s.toks + 1) I sb fr
  refine ⟨u, rfl, Gu (s := { s with heap := h', toks := s.toks + 1 }) st' rfl rfl (by decide) ⟨x, H, I1, ru, ⟨rfl, fun ys hy => by rw [I.tuple_inj hy hq]; exact hx⟩, ?_, fun b hb => (hf b hb).1⟩⟩
  have e : ((n : Int) - 1 - ((i + 1 : Nat) : Int)) = ((xs.length - 1 - i : Nat) : Int) - 1 := by omega
  show WG h' r a ((n : Int) - 1 - ((i + 1 : Nat) : Int))
  rw [e]
  exact st'
 done := by
  intro X hP hw hK hc i pins s σ H E I hf st hg
  subst hP hw hK
  obtain ⟨xs, hq, hn, hx⟩ := hg
  have fr := hf r (by simp)
  have hT : s.TypeIs (.ref r) "reversed" := ⟨_, st, rfl⟩
  unfold pyNext
  refine wpAny_bind (wpAny_attempt (wpAny_callSpecial?_slot (name := Str.ofString "__next__") hT xD (wpAny_call_entry xD hT uW
   (Y3 (show X.A.in1.handled = none from I.ok.hd hc) st (by omega) fun h' e eb ⟨o, ho, hcl⟩ => ?_) (qM _))))
  refine wpAny_bind (wpAny_isInstance (T := "StopIteration") (b := true) ⟨o, ho, hcl⟩ isSubtype_stop ?_)
  obtain ⟨f0, f1, f2, f3, f4, f5⟩ := fr
  exact wpAny_pure ⟨rfl, I.turned (t' := s.toks) (fun b o hb e => eb b o hb e) f0 f1 f3 f4 f5⟩
 self := fun A i s Q E st h => ZG st h
section
variable {X : Cx} {e : Expr} {f : FE} {pos : Pos} {tg : Expr}
def QZ (f : FE) : FA := fun ρ => (f ρ).bind fun | .tup ds => some ds.reverse | _ => none
theorem UX {K : W.Frag} {Hf : Hp} {a : Addr} {xs : List V} {ds : List D} (qa : SqT K Hf a xs) (la : zP K Hf ds xs) : Walks K Hf (ItB K a xs.length) ds.reverse := fun H2 Hf2 t2 sf2 i => by
 refine ⟨fun d hd => ?_, fun hle => ⟨xs, uZ sf2 (uZ t2 qa), rfl, by rw [la.length]; simpa using hle⟩⟩
 obtain ⟨v, e3, e4⟩ := la.reverse.get hd
 have sq : SqT K H2 a xs := uZ sf2 (uZ t2 qa)
 refine ⟨⟨xs, v, sq, rfl, e3⟩, fun x H3 hy => ?_⟩
 obtain ⟨rfl, hy⟩ := hy
 have := hy xs sq
 rw [e3] at this
 cases this
 exact ⟨Hf2, Grows.refl sf2, e4.mono t2⟩
theorem Md {p : Pos} (hg : Gl X "reversed") (hm : X.mg "reversed" = none) (he : DE X e f) (hs : starEach [e] X.env = [(false, eval e X.env)] := by rfl) : DI X tg (.Call (.Name "reversed" p) [e] [] pos) (QZ f) := by
 intro pins s σ H R I h
 obtain ⟨H₀, Hf₀, ρ, Hf, ds', R0, q, k⟩ := h
 obtain ⟨d, q3, q4⟩ := zL q
 refine Call_ (kq I hg hm boot_reversed (PyProof.Rows.callWith_type1 (thn ((wm he uT hs) pos pins s σ H (fun vs H1 => ∃ v Hf1, vs = [v] /\ Rep X.K H₀ Hf₀ σ ρ H1 Hf1 /\ yi H H1 /\ yi Hf Hf1 /\ Has X.K Hf1 d v) I ⟨H₀, Hf₀, ρ, Hf, d, R0, q3, fun v H1 Hf1 R1 s1 t1 h1 => ⟨v, Hf1, rfl, R1, s1, t1, h1⟩⟩) fun us s1 ⟨vs, H1, I1, r1, q1⟩ => ?_) hs rfl))
 obtain ⟨v, Hf1, rfl, R1, s1', t1, h1⟩ := q1
 cases r1 with
 | cons r rr =>
  cases rr
  cases d <;> try cases q4
  obtain ⟨a, xs, rfl, qa, la⟩ := Has.tup_iff.mp h1
  cases r
  obtain ⟨its, rv, p, hz⟩ := I1.tuple (uZ R1.sf qa)
  have hl := rv.length
  have hn := jG
  refine GS p (by rw [g0p, <- hl]; omega) ?_
  have e0 : ((its.toArray.size : Nat) : Int) - 1 = (xs.length : Int) - 1 - ((0 : Nat) : Int) := by rw [g0p, <- hl]; simp
  have hr : WG (s1.heap.push { cls := .type "reversed", data := .fields #[.ref a, rawInt (((its.toArray.size : Nat) : Int) - 1)] }) s1.heap.objs.size a ((xs.length : Int) - 1 - ((0 : Nat) : Int)) := by
   rw [<- e0]; exact Heap.get?_push_size _ rfl
  have I2 : Inv X pins σ H1 { s1 with heap := s1.heap.push { cls := .type "reversed", data := .fields #[.ref a, rawInt (((its.toArray.size : Nat) : Int) - 1)] }, toks := s1.toks + 1 + 1 } := I1.kept fun b o e => Heap.get?_push_of_some _ e
  refine ZG hr ⟨s1.heap.objs.size, [s1.heap.objs.size], _, _, H1, rfl, I2, Kb a s1.heap.objs.size xs.length, hr, fun b hb => ?_, k _ _ _ R1 s1' t1 (UX qa la)⟩
  have e : b = s1.heap.objs.size := by simpa using hb
  rw [e]; exact Xi I1 (g0r _)
end
section
variable {X : Cx} {e : Expr} {f : FE} {pos : Pos} {tg : Expr}
theorem xO (he : DE X e f) : DI X tg e (zM f) := by
 intro pins s σ H R I h
 obtain ⟨H₀, Hf₀, ρ, Hf, ds, R0, q, k⟩ := h
 obtain ⟨d, q3, q4⟩ := zL q
 refine thn (he pins s σ H (fun v H1 => ∃ Hf1, Rep X.K H₀ Hf₀ σ ρ H1 Hf1 /\ yi H H1 /\ yi Hf Hf1 /\ Has X.K Hf1 d v) I ⟨H₀, Hf₀, ρ, Hf, d, R0, q3, fun v H1 Hf1 R1 s1 t1 h1 => ⟨Hf1, R1, s1, t1, h1⟩⟩) fun u s1 ⟨v, H1, I1, r, Hf1, R1, s1', t1, h1⟩ => ?_
 cases d with
 | lst ds' =>
  cases q4
  obtain ⟨a, xs, rfl, qa, la⟩ := Has.lst_iff.mp h1
  cases r
  obtain ⟨its, rv, p, hz⟩ := I1.list (R1.sf.seq qa)
  refine wpAny_pyIter_list p.isList ?_
  refine ⟨s1.heap.objs.size, [s1.heap.objs.size], _, _, H1, rfl, I1.kept (t' := s1.toks) fun b o e => Heap.get?_push_of_some _ e, UY a _, ⟨_, Heap.get?_push_size _ rfl, rfl, rfl⟩, fun b hb => ?_, k _ _ _ R1 s1' t1 (Zt qa la)⟩
  have e : b = s1.heap.objs.size := by simpa using hb
  subst e
  exact I1.fpOk (g0r _) (I1.hok.fresh (g0r _))
 | tup ds' =>
  cases q4
  obtain ⟨a, xs, rfl, qa, la⟩ := Has.tup_iff.mp h1
  cases r
  obtain ⟨its, rv, p, hz⟩ := I1.tuple (uZ R1.sf qa)
  refine wpAny_pyIter_tuple (show s1.heap.IsTuple a its.toArray from p) ?_
  refine ⟨s1.heap.objs.size, [s1.heap.objs.size], _, _, H1, rfl, I1.kept (t' := s1.toks) fun b o e => Heap.get?_push_of_some _ e, VS a _, ⟨_, Heap.get?_push_size _ rfl, rfl, rfl⟩, fun b hb => ?_, k _ _ _ R1 s1' t1 (YJ qa la)⟩
  have e : b = s1.heap.objs.size := by simpa using hb
  subst e
  exact I1.fpOk (g0r _) (I1.hok.fresh (g0r _))
 | _ => cases q4
end
def jH (k : NameKind) : Option NameKind -> Bool
 | some k' => k' == k
 | none => false
def Hr (osc scope : Scope) (frees : List Str) : Bool :=
 scope.kind == .function && scope.names.all (fun y => !(y.2 == .cell)) && scope.names.all (fun y => !(y.2 == .local) || jH .local (scope.names.lookup y.1)) &&
 scope.names.all (fun y => !(y.2 == .free) || (jH .cell (osc.names.lookup y.1) || jH .free (osc.names.lookup y.1))) &&
 frees.all (fun x => (jH .cell (osc.names.lookup x) || jH .free (osc.names.lookup x)) && jH .free (scope.names.lookup x))
theorem vC {k : NameKind} {o : Option NameKind} (h : jH k o = true) : o = some k := by
 unfold jH at h
 split at h
 ·rw [eq_of_beq h]
 ·cases h
theorem CompScope.of {osc scope : Scope} {own frees : List Str} (h : Hr osc scope frees = true) : CompScope osc scope own frees := by
 unfold Hr at h
 simp only [g2a, g2b] at h
 obtain ⟨⟨⟨⟨h1, h2⟩, h3⟩, h4⟩, h5⟩ := h
 refine ⟨eq_of_beq h1, fun y hy z => ?_, fun y hy z => ?_, fun y hy z => ?_, fun x hx => ?_⟩
 ·have := h2 y hy
  rw [z] at this
  simp at this
 ·have := h3 y hy
  rw [z] at this
  simp at this
  exact vC this
 ·have := h4 y hy
  rw [z] at this
  simp at this
  exact this.imp vC vC
 ·have := h5 x hx
  exact ⟨(by simpa using this.1 : _ \/ _).imp vC vC, vC this.2⟩
section
variable {X : Cx} {scope : Scope} {own frees : List Str} {caps : List Nat}
theorem Rep.lstFrz {K : W.Frag} {H₀ Hf₀ : Hp} {σ : St} {ρ : Rho} {H Hf H' Hf' : Hp} {a : Addr} {xs : List V} (R : Rep K H₀ Hf₀ σ ρ H Hf) (R' : Rep K H₀ Hf₀ σ ρ H' Hf') (ha : H' a = some (.lst xs)) (hn : Hf' a = none) (hh : H a = none) : Rep K H₀ Hf₀ σ ρ H' (upd Hf' a (.lst xs)) := by
 have sm : yi Hf' (upd Hf' a (.lst xs)) := zy hn
 refine ⟨R'.s0, fun b u z => ?_, fun b u z => ?_, R'.f0.trans sm, R'.len, fun i d z => ?_, fun i sl z o => ?_, R'.inj⟩
 ·by_cases hb : b = a
  ·subst hb; rw [zq] at z; cases z; exact ha
  ·rw [zF hb] at z; exact R'.sf b u z
 ·by_cases hb : b = a
  ·subst hb; exact .inr (.inl (R.s0.free hh))
  ·rw [zF hb] at z; exact R'.nf b u z
 ·obtain ⟨v, p1, p2⟩ := R'.fr i d z
  exact ⟨v, p1, p2.mono sm⟩
 ·obtain ⟨b, p1, p2, p3, p4⟩ := R.ow i sl z o
  obtain ⟨b', r1, r2, r3, r4⟩ := R'.ow i sl z o
  rw [p1] at r1; cases r1
  refine ⟨b, p1, r2.mono (fun u q => q) sm, ?_, r4⟩
  rw [zF]
  ·exact r3
  ·rintro rfl
   obtain ⟨o', q'⟩ := p2.there o
   rw [q'] at hh; cases hh
theorem Wr {tg elt iter : Expr} {ifs : List Expr} {y : Str} {py pos spos : Pos} {fi : FA} {γ : FG} {ft : FT} {f : FE} (i : Nat) (hN : X.N.Nodup) (hc : X.calm = true) (S : CompScope X.env.scope scope own frees) (hcap : caps.map (fun j => X.N[j]?) = frees.map some) (kn : uy γ) (hi : DI X tg iter fi)
  (body : ∀ cl C s H fp, DG (cxC X scope cl C (own ++ frees) s H fp) tg γ /\ DQ (cxC X scope cl C (own ++ frees) s H fp) ifs ft /\ DE (cxC X scope cl C (own ++ frees) s H fp) elt f)
  (hsw : swapsWith (.ListComp elt [⟨tg, iter, ifs, 0⟩] scope pos) (some (.Name y py)) spos.line X.env = pure true := by rfl) (hiN : X.N[i]? = some y := by rfl) (hy : X.env.scope.names.lookup y = some .local := by rfl)
  (hs : ∀ x, foldedSetIterable iter X.env x = pure x := by intro _; rfl) : DS X (.Assign [.Name y py] (.ListComp elt [⟨tg, iter, ifs, 0⟩] scope pos) spos) (VL i (xt own.length caps fi γ ft f)) :=
 xN (Zr hc S hcap kn hi body hsw i hN hiN hy hs) fun D' σ H ⟨H₀, Hf₀, ρ, Hf, o, R, q, k⟩ => by
  obtain ⟨d, e1, e2⟩ := yp q
  cases e2
  refine ⟨H₀, Hf₀, ρ, Hf, d, R, e1, fun a xs H1 Hf1 R1 s1 t1 h1 ha hn hh => k _ _ _ (R1.setOwn i rfl ⟨xs, ha, h1⟩ hn (R.s0.free hh) ?_) t1⟩
  intro j sl z o z'
  obtain ⟨b, p1, p2, _⟩ := R.ow j sl z o
  rw [p1] at z'; cases z'
  obtain ⟨ob, q'⟩ := p2.there o
  rw [q'] at hh; cases hh
theorem vJ {tg elt iter : Expr} {ifs : List Expr} {y : Str} {py pos spos : Pos} {fi : FA} {γ : FG} {ft : FT} {f : FE} (i : Nat) (hN : X.N.Nodup) (hc : X.calm = true) (S : CompScope X.env.scope scope own frees) (hcap : caps.map (fun j => X.N[j]?) = frees.map some) (kn : uy γ) (hi : DI X tg iter fi)
  (body : ∀ cl C s H fp, DG (cxC X scope cl C (own ++ frees) s H fp) tg γ /\ DQ (cxC X scope cl C (own ++ frees) s H fp) ifs ft /\ DE (cxC X scope cl C (own ++ frees) s H fp) elt f)
  (hsw : swapsWith (.ListComp elt [⟨tg, iter, ifs, 0⟩] scope pos) (some (.Name y py)) spos.line X.env = pure true := by rfl) (hiN : X.N[i]? = some y := by rfl) (hy : X.env.scope.names.lookup y = some .local := by rfl)
  (hs : ∀ x, foldedSetIterable iter X.env x = pure x := by intro _; rfl) : DS X (.Assign [.Name y py] (.ListComp elt [⟨tg, iter, ifs, 0⟩] scope pos) spos) (xh i (zT (xt own.length caps fi γ ft f))) :=
 xN (Zr hc S hcap kn hi body hsw i hN hiN hy hs) fun D' σ H ⟨H₀, Hf₀, ρ, Hf, o, R, q, k⟩ => by
  obtain ⟨d, e1, e2⟩ := zL q
  cases e2
  unfold zT at e1
  cases e3 : xt own.length caps fi γ ft f ρ with
  | none => rw [e3] at e1; cases e1
  | some ds =>
   rw [e3] at e1
   cases e1
   refine ⟨H₀, Hf₀, ρ, Hf, ds, R, e3, fun a xs H1 Hf1 R1 s1 t1 h1 ha hn hh => ?_⟩
   have sm : yi Hf1 (upd Hf1 a (.lst xs)) := zy hn
   exact k _ _ _ ((R.lstFrz R1 ha hn hh).set i (Has.lst_iff.mpr ⟨a, xs, rfl, SqL.of zq, h1.mono sm⟩)) (t1.trans sm)
end
inductive GEnt (K : W.Frag) : List DictEntry -> List (Int × D) -> Prop
 | nil : GEnt K [] []
 | cons {k : Int} {t : Tok} {u : Value} {v : V} {d : D} {es : List DictEntry} {kvs : List (Int × D)} : hashInt k = k -> yV v u -> Has K (fun _ => none) d v -> GEnt K es kvs -> GEnt K (⟨k, .int k t, u⟩ :: es) ((k, d) :: kvs)
theorem GEnt.vals {K : W.Frag} : ∀ {es : List DictEntry} {kvs : List (Int × D)}, GEnt K es kvs -> ∃ vs : List (Int × Value), (∀ P w, (∀ e ∈ es, ∃ k, (intKind P w).is k e.key = true /\ e.hash = (intKind P w).hash k) /\ Pairs (intKind P w) es vs) /\ vs.map (·.1) = kvs.map (·.1) ∧
  ∀ k d, kvs.lookup k = some d -> ∃ u v, valueAt vs k = some u /\ yV v u /\ Has K (fun _ => none) d v
 | _, _, .nil => ⟨[], fun P w => ⟨fun e he => (by cases he), Pairs.nil⟩, rfl, fun k d e => (by simp at e)⟩
 | _, _, @GEnt.cons _ k t u v d es kvs hk r h g => by
  obtain ⟨vs, p1, p2, p3⟩ := g.vals
  have hi : Value.isInt k (.int k t) = true := by simp [Value.isInt]
  refine ⟨(k, u) :: vs, fun P w => ⟨fun e he => ?_, Pairs.cons hi rfl (p1 P w).2⟩, (by simp [p2]), fun k' d' e => ?_⟩
  ·rcases g0n.mp he with rfl | he
   ·exact ⟨k, hi, hk.symm⟩
   ·exact (p1 P w).1 e he
  ·rw [g1v] at e
   by_cases hkk : k' = k
   ·subst hkk
    simp at e
    subst e
    exact ⟨u, v, by simp [valueAt], r, h⟩
   ·have : (k' == k) = false := by simpa using hkk
    rw [this] at e
    obtain ⟨u', v', q1, q2, q3⟩ := p3 k' d' e
    refine ⟨u', v', ?_, q2, q3⟩
    unfold valueAt at q1 ⊢
    rw [g2n]
    have : decide (k = k') = false := by simpa using fun z : k = k' => hkk z.symm
    simp only [this]
    exact q1
theorem Gx {K : W.Frag} {mg : Str -> Option Value} {x : Str} {kvs : List (Int × D)} {a : Addr} {es : List DictEntry} {ep : Nat} (h1 : mg x = some (.ref a)) (h2 : K.lookup a = some ⟨.type "dict", none, .dict es.toArray ep, #[]⟩) (g : GEnt K es kvs) (nd : (kvs.map (·.1)).Nodup) : GDict K mg x kvs := by
 obtain ⟨vs, p1, p2, p3⟩ := g.vals
 exact ⟨a, _, es.toArray, ep, vs, h1, h2, ⟨rfl, rfl, rfl⟩, rfl, fun P w => ⟨fun e he => (p1 P w).1 e (by simpa using he), (p1 P w).2⟩, by rw [p2]; exact nd, p3⟩
theorem uK {K : W.Frag} {ds : List D} {a : Addr} {xs : List V} {its : Array Value} {od : Option Addr} {n : Nat} {osl : Array (Option Value)} (h2 : K.lookup a = some ⟨.type "tuple", od, .seq its n, osl⟩) (hz : its.size <= sizeLine) (hv : yP xs its.toList) (hl : zP K (fun _ => none) ds xs) : Has K (fun _ => none) (.tup ds) (.ref a) :=
 Has.tup_iff.mpr ⟨a, xs, rfl, .inr ⟨_, its, n, h2, rfl, rfl, hz, hv⟩, hl⟩
section
variable {ρ : Rho} {i j k : Nat} {f g h : FE} {fa ga : FA} {ft gt ht : FT} {F G B : FS} {γ : FG} {δ : FGs} {d x y : D} {ds : List D}
@[simp] theorem yB : vF i ρ = (match ρ[i]? with | some (.fr d) => some d | _ => none) := rfl
@[simp] theorem MR : vR i ρ = (match ρ[i]? with | some (.fr d) => some d | some (.ol ds) => some (.lst ds) | _ => none) := rfl
@[simp] theorem wL : cF d ρ = some d := rfl
@[simp] theorem X2 {φ : D -> Option D} : wG φ f ρ = (f ρ).bind φ := rfl
@[simp] theorem zt {φ : D -> D -> Option D} : zc φ f g ρ = (f ρ).bind fun x => (g ρ).bind fun y => φ x y := rfl
@[simp] theorem zA : zw ρ = some [] := rfl
@[simp] theorem zm : za f ga ρ = (f ρ).bind fun x => (ga ρ).bind fun xs => some (x :: xs) := rfl
@[simp] theorem jz : tupF ga ρ = (ga ρ).bind fun xs => if xs.length <= sizeLine then some (.tup xs) else none := rfl
@[simp] theorem jA : Zm ga ρ = (ga ρ).bind fun xs => if xs.length <= sizeLine then some xs else none := rfl
@[simp] theorem zY : zT fa ρ = (fa ρ).map D.lst := rfl
@[simp] theorem vO : blF f ρ = (f ρ).bind fun | .bl b => some b | _ => none := rfl
@[simp] theorem Qc : XQ ft gt ρ = (ft ρ).bind fun b => if b = true then gt ρ else some false := rfl
@[simp] theorem Dl : orT ft gt ρ = (ft ρ).bind fun b => if b = true then some true else gt ρ := rfl
@[simp] theorem G3 : BI ft ρ = (ft ρ).bind fun b => some (!b) := rfl
@[simp] theorem Dj : ttF ρ = some true := rfl
@[simp] theorem G4 : Mv f g ρ = (f ρ).bind fun | .bl b => (if b = true then g ρ else some (.bl false)) | _ => none := rfl
@[simp] theorem NN : Nj f ρ = (f ρ).bind fun | .bl b => some (.bl (!b)) | _ => none := rfl
@[simp] theorem Pk : ifF ft f g ρ = (ft ρ).bind fun b => if b = true then f ρ else g ρ := rfl
@[simp] theorem zR {φ : List D -> Option D} : zN φ fa ρ = (fa ρ).bind φ := rfl
@[simp] theorem zr : yb F G ρ = (F ρ).bind fun o => match o with | .nx ρ' => G ρ' | o => some o := rfl
@[simp] theorem jK : nxF ρ = some (.nx ρ) := rfl
@[simp] theorem yx : yY f ρ = (f ρ).bind fun d => some (.rt d) := rfl
@[simp] theorem wy : ifS ft F G ρ = (ft ρ).bind fun b => if b = true then F ρ else G ρ := rfl
@[simp] theorem yJ : xh i f ρ = (f ρ).bind fun d => some (.nx (ρ.set i (.fr d))) := rfl
@[simp] theorem j9 : VL i fa ρ = (fa ρ).bind fun ds => some (.nx (ρ.set i (.ol ds))) := rfl
@[simp] theorem Ds : MG γ f ρ = (f ρ).bind fun d => (γ d ρ).bind fun ρ' => some (.nx ρ') := rfl
@[simp] theorem YU : Wm i F ρ = (frz i ρ).bind F := rfl
@[simp] theorem Dq : frz i ρ = (match ρ[i]? with | some (.ol ds) => some (ρ.set i (.fr (.lst ds))) | some (.fr _) => some ρ | _ => none) := rfl
@[simp] theorem wj : zu i d ρ = some (ρ.set i (.fr d)) := rfl
@[simp] theorem YT : jF [] ρ = some ρ := rfl
@[simp] theorem j8 {r : List D} : yg γ δ (d :: r) ρ = (γ d ρ).bind fun ρ' => δ r ρ' := rfl
@[simp] theorem YS : qQ k δ (.tup ds) ρ = if ds.length = k then δ ds ρ else none := rfl
@[simp] theorem NL : Po i j fa ρ = (fa ρ).bind fun l => match l with | [d, d'] => some (.nx ((ρ.set i (.fr d)).set j (.fr d'))) | _ => none := rfl
@[simp] theorem qr : vd i f ρ = (f ρ).bind fun d => match ρ[i]? with | some (.ol ds) => if ds.length < sizeLine then some (.nx (ρ.set i (.ol (ds ++ [d])))) else none | _ => none := rfl
@[simp] theorem qq : Wn fa γ B ρ = (fa ρ).bind fun ds => yC γ B ds ρ := rfl
@[simp] theorem W3 : ky f ρ = (zM f ρ).bind fun ds => some (vW ds) := rfl
@[simp] theorem W2 : Xf f g ρ = (zM f ρ).bind fun xs => (zM g ρ).bind fun ys => some (XR xs ys) := rfl
@[simp] theorem Ku : QZ f ρ = (f ρ).bind fun | .tup ds => some ds.reverse | _ => none := rfl
@[simp] theorem zU : zM f ρ = (f ρ).bind V1 := rfl
@[simp] theorem x5 : V1 (.lst ds) = some ds := rfl
@[simp] theorem Dk : V1 (.tup ds) = some ds := rfl
@[simp] theorem MT : noP ρ = some none := rfl
@[simp] theorem Dr : exP f ρ = (f ρ).bind fun | .int i => some (some i) | _ => none := rfl
@[simp] theorem W0 {l u : FP} : jx f l u ρ = (f ρ).bind fun x => (l ρ).bind fun lo => (u ρ).bind fun hi => match x with | .tup ds => some (.tup (Xq ds lo hi)) | .lst ds => some (.lst (Xq ds lo hi)) | _ => none := rfl
@[simp] theorem HP : BR fa ρ = (fa ρ).bind fun l => match l with | [.lst ds] => some ds | [.tup ds] => some ds | _ => none := rfl
@[simp] theorem xG {n : Nat} {caps : List Nat} {fi : FA} : xt n caps fi γ ft f ρ = (fi ρ).bind fun ds => if ds.length <= sizeLine then yM γ ft f ds (uv n caps ρ) else none := rfl
@[simp] theorem xQ {n : Nat} {caps : List Nat} : uv n caps ρ = g0e n .no ++ caps.map (Mo ρ) := rfl
@[simp] theorem vx : Mo ρ j = (match ρ[j]? with | some (.fr d) => .fr d | _ => .no) := rfl
@[simp] theorem Zy : J3 fa ρ = (fa ρ).bind uS := rfl
theorem vy {j : Int} (h1 : -1000000 <= j) (h2 : j <= 1000000) : uS [.int j] = some (yZ 0 j) := by
 show @ite _ (-(2 ^ 62) <= j /\ j < 2 ^ 62) (Classical.propDecidable _) (some (yZ 0 j)) none = _
 rw [if_pos (by omega)]
@[simp] theorem yF : vL k F ds = Vd (F (jw k ds)) := rfl
@[simp] theorem yR : Vd (some (.rt d)) = some d := rfl
@[simp] theorem NM : Vd (some (.nx ρ)) = some .non := rfl
@[simp] theorem zQ : jw k ds = ds.map Slot.fr ++ g0e (k - ds.length) Slot.no := rfl
variable {a b : Int}
@[simp] theorem V6 : jT (.int a) (.int b) = some (.int (a - b)) := rfl
@[simp] theorem Qd : ue (.int a) (.int b) = some (.int (a + b)) := rfl
@[simp] theorem Pi : ltD (.int a) (.int b) = some (.bl (decide (a < b))) := rfl
@[simp] theorem Pl : gtD (.int a) (.int b) = some (.bl (decide (b < a))) := rfl
@[simp] theorem NR : geD (.int a) (.int b) = some (.bl (decide (b <= a))) := rfl
@[simp] theorem Dm : Y4 (.int a) = some (.int (-a)) := rfl
@[simp] theorem Qb : eqF (.int a) (.int b) = some (.bl (decide (a = b))) := Cf
@[simp] theorem MU : neF (.int a) (.int b) = some (.bl (!decide (a = b))) := ke
@[simp] theorem Pj : isD k' .non .non = some (.bl (!k')) := rfl
@[simp] theorem MV : K9 [.int a, .int b] = some (.int (if b < a then b else a)) := rfl
@[simp] theorem MW : QL [.int a, .int b] = some (.int (if b > a then b else a)) := rfl
@[simp] theorem W1 : Y9 [.lst ds] = some (.int ds.length) := rfl
@[simp] theorem NQ : Y9 [.tup ds] = some (.int ds.length) := rfl
@[simp] theorem Kt : ql [.lst ds] = some (.tup ds) := rfl
@[simp] theorem Ph : ql [.tup ds] = some (.tup ds) := rfl
@[simp] theorem Dp {T : String} : FI T d = some (.bl (VY (tyN d) T)) := rfl
end
theorem qH {n : Nat} {caps : List Nat} {fi : FA} {γ : FG} {ft : FT} {f : FE} {ρ : Rho} {ds : List D} (h : fi ρ = some ds) (hz : ds.length <= sizeLine) : xt n caps fi γ ft f ρ = yM γ ft f ds (uv n caps ρ) := by
 rw [xG, h, g0a, if_pos hz]
theorem JF {f : FE} {C : List Slot} {φ : Nat -> D} : ∀ (ds : List D) (n : Nat) (s : Slot), (∀ k d, ds[k]? = some d -> f (.fr d :: C) = some (φ (n + k))) -> yM (zu 0) ttF f ds (s :: C) = some ((g0u ds.length).map fun k => φ (n + k))
 | [], _, _, _ => rfl
 | d :: ds, n, s, h => by
  have h0 := h 0 d rfl
  have ih := JF (f := f) (C := C) (φ := φ) ds (n + 1) (.fr d) (fun k d' e => by rw [h (k + 1) d' (by simpa using e)]; congr 2; omega)
  unfold yM
  simp only [wj, g0g, g0a, Dj, if_true, h0, ih, Nat.add_zero]
  rw [g0d, g1m, g0f, g1d]
  congr 3
  funext k
  simp only [Function.comp]
  congr 1
  omega
theorem CJ {f : FE} {C : List Slot} {φ : Nat -> D} : ∀ (ds : List D) (n : Nat) (s s' : Slot), (∀ k d, ds[k]? = some d -> ∃ x y, d = .tup [x, y] /\ f (.fr x :: .fr y :: C) = some (φ (n + k))) →
  yM (qQ 2 (yg (zu 0) (yg (zu 1) jF))) ttF f ds (s :: s' :: C) = some ((g0u ds.length).map fun k => φ (n + k))
 | [], _, _, _, _ => rfl
 | d :: ds, n, s, s', h => by
  obtain ⟨x, y, rfl, h0⟩ := h 0 d rfl
  have ih := CJ (f := f) (C := C) (φ := φ) ds (n + 1) (.fr x) (.fr y) (fun k d' e => by
   obtain ⟨x', y', e1, e2⟩ := h (k + 1) d' (by simpa using e)
   exact ⟨x', y', e1, by rw [e2]; congr 2; omega⟩)
  unfold yM
  simp only [YS, j8, wj, YT, g0d, g0m, if_true, g0g, g0i, g0a, Dj, h0, ih, Nat.add_zero]
  rw [g1m, g0f, g1d]
  congr 3
  funext k
  simp only [Function.comp]
  congr 1
  omega
theorem v5 : fillsNumberSlot (.type "tuple") "mul" = pure false :=
 PySem.fillsNumberSlot_seq (id := "tuple.__mul__") (r := some (.builtin "tuple.__rmul__")) F.slot_tuple_mul.lookup (by decide +kernel) F.slot_tuple_rmul.lookup (by decide +kernel)
theorem jB : seqRepeat? (.type "tuple") = pure (some (.builtin "tuple.__mul__")) := by
 unfold seqRepeat?
 rw [PySem.seqSlot_of (T := "tuple") (name := "__mul__") (id := "tuple.__mul__") F.slot_tuple_mul.lookup (by decide +kernel), PySem.seqSlot_of (T := "tuple") (name := "__rmul__") (id := "tuple.__rmul__") F.slot_tuple_rmul.lookup (by decide +kernel)]
 rfl
open PySem.AutoSeq1 (wpAny_loadPart') in
theorem uV (a : Int) (t : Tok) (l : Addr) (items : Array Value) (n : Nat) (dd : Option Addr) (sl : Array (Option Value)) :
  Meets (Builtin.«int.__rmul__» ⟨[.int a t, .ref l], []⟩) (fun _ R s => s.heap.get? l = some { cls := .type "tuple", dict := dd, data := .seq items n, slots := sl } /\ R (.ok (.ret Value.notImplemented)) s) :=
 .of_wp fun prog w A R s h => by
  obtain ⟨hp, g, d, tk, os⟩ := s; obtain ⟨hl, h⟩ := h
  wp_walk using wpAny_loadPart' hl
  exact ⟨_, rfl, h⟩
open PySem.AutoSeq1 (wpAny_loadPart') in
theorem VX (l : Addr) (items : Array Value) (n : Nat) (dd : Option Addr) (sl : Array (Option Value)) (u : Tok) :
  Meets (Builtin.«tuple.__mul__» ⟨[.ref l, .int 1 u], []⟩) (fun _ R s => s.heap.get? l = some { cls := .type "tuple", dict := dd, data := .seq items n, slots := sl } /\ R (.ok (.ret (.ref l))) s) :=
 .of_wp fun prog w A R s h => by
  obtain ⟨hp, g, d, tk, os⟩ := s; obtain ⟨hl, h⟩ := h
  have f1 := AutoSeq1.idx_int
  wp_walk using wpAny_loadPart' hl
  exact ⟨_, rfl, h⟩
open PySem.AutoSeq1 (wpAny_loadPart') in
theorem VW (l : Addr) (items : Array Value) (n : Nat) (dd : Option Addr) (sl : Array (Option Value)) (k : Int) (u : Tok) (hne : items.isEmpty = false) (h2 : 2 <= k) (h3 : k < 2 ^ 63) (hsz : items.size * k.toNat <= sizeLine) :
  Meets (Builtin.«tuple.__mul__» ⟨[.ref l, .int k u], []⟩) (fun _ R s => s.heap.get? l = some { cls := .type "tuple", dict := dd, data := .seq items n, slots := sl } /\ R (.ok (.ret (.ref s.heap.objs.size))) { s with heap := s.heap.push { cls := .type "tuple", data := .seq (List.foldl (fun x1 x2 => x1 ++ x2) #[] (g0e k.toNat items)) } }) :=
 .of_wp fun prog w A R s h => by
  obtain ⟨hp, g, d, tk, os⟩ := s; obtain ⟨hl, h⟩ := h
  have f1 := AutoSeq1.idx_int
  wp_walk using wpAny_loadPart' hl
  have hk : ¬ (decide (k < -2 ^ 63) || decide (k ≥ 2 ^ 63)) = true := by
   rw [g3f, decide_eq_true_eq, decide_eq_true_eq]
   omega
  rw [if_neg hk]
  show wpAny _ _ (Builtin.Tuple.tupleItemsOf (.ref l) >>= _) _ _ _
  refine wpAny_bind (tupleItemsOf_ (items := items) ⟨_, hl, rfl, n, rfl⟩ ?_)
  have h1 : ¬ (items.isEmpty || k == 1) = true := by
   rw [hne, Bool.false_or, beq_iff_eq]
   omega
  show wpAny _ _ (if (items.isEmpty || k == 1) = true then _ else _) _ _ _
  rw [if_neg h1]
  have h0 : ¬ (decide (k <= 0) || items.isEmpty) = true := by
   rw [hne, Bool.or_false, decide_eq_true_eq]
   omega
  show wpAny _ _ (if (decide (k <= 0) || items.isEmpty) = true then _ else _) _ _ _
  rw [if_neg h0]
  have hn : (items.size : Int) * k = ((items.size * k.toNat : Nat) : Int) := by
   rw [Int.natCast_mul, Int.toNat_of_nonneg (by omega)]
  have hl24 : sizeLine = 16777216 := sizeLine_eq
  have h4 : ¬ ((items.size : Int) * k > (2 ^ 63 - 1) / 8) := by rw [hn]; omega
  show wpAny _ _ (if (items.size : Int) * k > (2 ^ 63 - 1) / 8 then _ else _) _ _ _
  rw [if_neg h4]
  have h5 : ¬ (Builtin.Tuple.tupleTooMany ((items.size : Int) * k) = true) := by
   unfold Builtin.Tuple.tupleTooMany
   rw [decide_eq_true_eq, hn]
   omega
  show wpAny _ _ (if Builtin.Tuple.tupleTooMany ((items.size : Int) * k) = true then _ else _) _ _ _
  rw [if_neg h5]
  have hso : sizeOk (.seq (List.foldl (fun x1 x2 => x1 ++ x2) #[] (g0e k.toNat items))) := by
   show (List.foldl (fun x1 x2 => x1 ++ x2) #[] (g0e k.toNat items)).size <= sizeLine
   have gen : ∀ (m : Nat) (acc : Array Value), (List.foldl (fun x1 x2 => x1 ++ x2) acc (g0e m items)).size = acc.size + items.size * m := by
    intro m
    induction m with
    | zero => intro acc; simp
    | succ m ih => intro acc; rw [g1p, List.foldl_cons, ih, Array.size_append, Nat.mul_succ]; omega
   rw [gen]
   simpa using hsz
  exact wpAny_bind (m := Builtin.Tuple.tupleExact _) (wpAny_newObj_type (wpAny_pure ⟨_, rfl, h⟩) hso)
section
variable {X : Cx}
def Dy (K : W.Frag) : R2 := fun x y H Q => ∃ a k xs, x = .ref a /\ y = .int k /\ SqT K H a xs /\ xs ≠ [] /\ 1 <= k /\ xs.length * k.toNat <= sizeLine /\ (k = 1 -> Q (.ref a) H) /\ (k ≠ 1 -> ∀ p, H p = none -> Q (.ref p) (upd H p (.tup (g0e k.toNat xs).flatten)))
theorem Bu : OpR X (binaryOp .Mult) (Dy X.K) := by
 intro pins s σ H x y v u Q I rx ry h
 obtain ⟨a, k, xs, rfl, rfl, ha, hne, hk, hz, q1, q2⟩ := h
 cases rx
 obtain ⟨t, rfl⟩ := ry
 obtain ⟨its, r, p, hz'⟩ := I.tuple ha
 have hlen := r.length
 obtain ⟨⟨cls, dd, data, sl⟩, ho, hc, n, hd⟩ := id p
 simp only at hc hd
 subst hc hd
 by_cases h1 : k = 1
 ·subst h1
  exact wpAny_binaryOp_repeat_ref (T := "tuple") (U := "int") (by decide) ⟨_, ho, rfl⟩ (fun s' => typeIs_int s' 1 t) v5 F.fills_int_mul F.slot_int_rmul jB F.slot_int_index.lookup
   (call_meets F.slot_int_rmul (typeIs_int s 1 t) F.entry_int_rmul (F.args_int_rmul_2 _ _) (uV 1 t a its.toArray n dd sl)
    ⟨ho, rfl, ⟨_, ho, rfl⟩, call_meets F.slot_tuple_mul ⟨_, ho, rfl⟩ F.entry_tuple_mul (F.args_tuple_mul_2 _ _) (VX a its.toArray n dd sl t) ⟨ho, .ref a, H, I, rfl, q1 rfl⟩⟩)
 ·have hsz : its.toArray.size * k.toNat <= sizeLine := by rw [g0p, <- hlen]; exact hz
  have hne' : its.toArray.isEmpty = false := by
   cases its with
   | nil => cases r; exact absurd rfl hne
   | cons _ _ => rfl
  have h63 : k < 2 ^ 63 := by
   have l1 : 1 <= xs.length := by
    cases xs with
    | nil => exact absurd rfl hne
    | cons _ _ => simp
   have l2 : k.toNat <= xs.length * k.toNat := Nat.le_mul_of_pos_left _ l1
   have : sizeLine = 16777216 := sizeLine_eq
   omega
  have hnew : List.foldl (fun x1 x2 => x1 ++ x2) #[] (g0e k.toNat its.toArray) = (g0e k.toNat its).flatten.toArray := by
   have := kG its k.toNat []
   rw [g0s] at this
   exact this
  refine wpAny_binaryOp_repeat_ref (T := "tuple") (U := "int") (by decide) ⟨_, ho, rfl⟩ (fun s' => typeIs_int s' k t) v5 F.fills_int_mul F.slot_int_rmul jB F.slot_int_index.lookup
   (call_meets F.slot_int_rmul (typeIs_int s k t) F.entry_int_rmul (F.args_int_rmul_2 _ _) (uV k t a its.toArray n dd sl)
    ⟨ho, rfl, ⟨_, ho, rfl⟩, call_meets F.slot_tuple_mul ⟨_, ho, rfl⟩ F.entry_tuple_mul (F.args_tuple_mul_2 _ _) (VW a its.toArray n dd sl k t hne' (by omega) h63 hsz) ⟨ho, ?_⟩⟩)
  rw [hnew]
  refine ⟨.ref s.heap.objs.size, _, I.laid (t' := s.toks) (o := .tup (g0e k.toNat xs).flatten) (fun b ob q => Heap.get?_push_of_some _ q) (g0r _) ?_, rfl, q2 h1 _ (I.hok.fresh (g0r _))⟩
  exact ⟨by rw [QN, Nat.mul_comm]; exact hz, _, r.rep k.toNat, IsTup.new _ _⟩
def BM : D -> D -> Option D
 | .int i, .int j => u5 (.int i) (.int j)
 | .tup (d :: ds), .int k => if 1 <= k /\ (ds.length + 1) * k.toNat <= sizeLine then some (.tup (g0e k.toNat (d :: ds)).flatten) else none
 | _, _ => none
theorem zP.rep {K : W.Frag} {H : Hp} {ds : List D} {xs : List V} (h : zP K H ds xs) : ∀ k : Nat, zP K H (g0e k ds).flatten (g0e k xs).flatten
 | 0 => .nil
 | k + 1 => by
  rw [g1p, g1p, g2i, g2i]
  exact h.append (zP.rep h k)
theorem KU : OpD X (fun x y H Q => rI UP (fun i j => .int (i * j)) x y H Q \/ Dy X.K x y H Q) BM := by
 intro σ ρ H₀ Hf₀ H Hf x y dx dy d Q R hx hy hφ k
 unfold BM at hφ
 split at hφ
 ·exact .inl (Qw σ ρ H₀ Hf₀ H Hf x y _ _ d Q R hx hy hφ k)
 ·split at hφ
  ·cases hφ
   rename_i e ds j hz
   obtain ⟨a, xs, rfl, qa, la⟩ := hx.tup R
   have hl := la.length
   refine .inr ⟨a, j, xs, rfl, hy.int, qa, fun z => ?_, hz.1, by rw [hl]; exact hz.2, fun e1 => ?_, fun e1 p hp => ?_⟩
   ·rw [z] at hl; simp at hl
   ·subst e1
    exact k _ _ _ R zx zx (by simpa using hx.tupF)
   ·have sm := zy (o := .tup (g0e j.toNat xs).flatten) (R.sf.free hp)
    exact k _ _ _ (R.lay hp) (zy hp) sm (Has.tup_iff.mpr ⟨p, _, rfl, SqT.of zq, (zP.rep la j.toNat).mono sm⟩)
  ·cases hφ
 ·cases hφ
theorem Mg {a b : Expr} {f g : FE} {pos : Pos} (ha : DR X a f) (hb : DR X b g) : DE X (.BinOp a .Mult b pos) (zc BM f g) := Cz (Qu.or Bu) KU ha hb
@[simp] theorem NP {i j : Int} : BM (.int i) (.int j) = u5 (.int i) (.int j) := rfl
end
theorem XA : ∀ {bs : List Bool} {us : List Value}, yP (bs.map V.bl) us -> LSm.BoolsAre us bs
 | [], _, r => by cases r; exact .nil
 | b :: bs, _, r => by
  rw [g0f] at r
  cases r with
  | cons r1 r2 => cases r1; exact .cons b (XA r2)
theorem Yp : ∀ {ns : List Int} {us : List Value}, yP (ns.map V.int) us -> IntsAre us ns
 | [], _, r => by cases r; exact .nil
 | n :: ns, _, r => by
  rw [g0f] at r
  cases r with
  | cons r1 r2 => obtain ⟨t, rfl⟩ := r1; exact .cons n t (Yp r2)
variable {X : Cx}
theorem VG (hc : X.calm = true) : w6 X (.builtin "all") (fun xs H Q => ∃ (p : Addr) (bs : List Bool), xs = [.ref p] /\ SqL X.K H p (bs.map V.bl) /\ Q (.bl (bs.all id)) H) := by
 intro pins s σ H xs us Q I r h
 obtain ⟨p, bs, rfl, hq, q⟩ := h
 obtain ⟨u, rfl, rx⟩ := Zi r
 cases rx
 obtain ⟨its, r', pl, hz⟩ := I.list hq
 have hb := XA r'
 have hl := pl.isList
 have hlt : p < s.heap.objs.size := by obtain ⟨_, e, _⟩ := hl; exact Heap.lt_size e
 refine call_all_walk (wpAny_pyIter_list hl ?_)
 refine ⟨s.heap.objs.size, [s.heap.objs.size, p], [s.heap.objs.size], its.toArray.size, _, _, fun i => (bs[i]?).getD true, rfl, PySem.Walks.list (A := X.A.in1) (I.ok.hd hc) _ p (g1g hlt) its.toArray,
  ⟨⟨_, Heap.get?_push_size _ rfl, rfl, rfl⟩, hl.push _⟩, fun i v s' Q' E' hP hQ => ?_, fun h' tk hk => ?_⟩
 ·obtain ⟨b, e, rfl⟩ := hb.get i v (by simpa using hP)
  simp only [e, g2y] at hQ
  exact wpAny_truthy_bool hQ
 ·have e : ((g0u its.toArray.size).all fun i => (bs[i]?).getD true) = bs.all id := by
   rw [g0p, hb.length]; exact LSm.range_all bs
  rw [e]
  exact ⟨.bl (bs.all id), H, I.kept (LSm.kept_iter hk), rfl, q⟩
theorem GR (hc : X.calm = true) : w6 X (.builtin "sum") (fun xs H Q => ∃ (p : Addr) (ns : List Int), xs = [.ref p] /\ SqL X.K H p (ns.map V.int) /\ Q (.int ns.sum) H) := by
 intro pins s σ H xs us Q I r h
 obtain ⟨p, ns, rfl, hq, q⟩ := h
 obtain ⟨u, rfl, rx⟩ := Zi r
 cases rx
 obtain ⟨its, r', pl, hz⟩ := I.list hq
 have hi := Yp r'
 have hl := pl.isList
 obtain ⟨xs, hx⟩ := hi.allInts.items
 have hl' : s.heap.IsList p (intItems xs) := hx ▸ hl
 refine sum_intListG (I.ok.hd hc) hl' fun h' tk t' hk => ?_
 have e1 : ns = xs.toList.map (·.1) := by
  rw [<- nums_intItems, <- hx]
  exact (show numsOf its.toArray.toList = ns from hi.numsOf).symm
 have e2 : preSum (numAt xs) xs.size = ns.sum := by
  rw [preSum_eq, g2v (by simp), e1]
 rw [e2]
 exact ⟨.int ns.sum, H, I.kept hk, ⟨t', rfl⟩, q⟩
def wY : List D -> Option (List Bool)
 | [] => some []
 | .bl b :: ds => (wY ds).map (b :: ·)
 | _ :: _ => none
def v7 : List D -> Option (List Int)
 | [] => some []
 | .int b :: ds => (v7 ds).map (b :: ·)
 | _ :: _ => none
theorem zP.bools {K : W.Frag} {H : Hp} : ∀ {ds : List D} {xs : List V} {bs : List Bool}, zP K H ds xs -> wY ds = some bs -> xs = bs.map V.bl
 | [], [], bs, h, e => by cases e; rfl
 | [], _ :: _, bs, h, e => by have := h.length; cases this
 | _ :: _, [], bs, h, e => by have := h.length; cases this
 | .bl b :: ds, x :: xs, bs, h, e => by
  unfold wY at e
  cases e' : wY ds with
  | none => rw [e'] at e; cases e
  | some cs =>
   rw [e'] at e
   cases e
   obtain ⟨_, _, e0, h1, h2⟩ := zP.cons_iff.mp h
   cases e0
   rw [Has.bl_iff.mp h1, zP.bools h2 e']
   rfl
 | .non :: _, _ :: _, _, _, e => by cases e
 | .int _ :: _, _ :: _, _, _, e => by cases e
 | .str _ :: _, _ :: _, _, _, e => by cases e
 | .tup _ :: _, _ :: _, _, _, e => by cases e
 | .lst _ :: _, _ :: _, _, _, e => by cases e
theorem zP.intsV {K : W.Frag} {H : Hp} : ∀ {ds : List D} {xs : List V} {bs : List Int}, zP K H ds xs -> v7 ds = some bs -> xs = bs.map V.int
 | [], [], bs, h, e => by cases e; rfl
 | [], _ :: _, bs, h, e => by have := h.length; cases this
 | _ :: _, [], bs, h, e => by have := h.length; cases this
 | .int b :: ds, x :: xs, bs, h, e => by
  unfold v7 at e
  cases e' : v7 ds with
  | none => rw [e'] at e; cases e
  | some cs =>
   rw [e'] at e
   cases e
   obtain ⟨_, _, e0, h1, h2⟩ := zP.cons_iff.mp h
   cases e0
   rw [Has.int_iff.mp h1, zP.intsV h2 e']
   rfl
 | .non :: _, _ :: _, _, _, e => by cases e
 | .bl _ :: _, _ :: _, _, _, e => by cases e
 | .str _ :: _, _ :: _, _, _, e => by cases e
 | .tup _ :: _, _ :: _, _, _, e => by cases e
 | .lst _ :: _, _ :: _, _, _, e => by cases e
def Mw : List D -> Option D
 | [.lst ds] => (wY ds).map fun bs => .bl (bs.all id)
 | _ => none
def MC : List D -> Option D
 | [.lst ds] => (v7 ds).map fun bs => .int bs.sum
 | _ => none
theorem Jc : FnR X (fun xs H Q => ∃ (p : Addr) (bs : List Bool), xs = [.ref p] /\ SqL X.K H p (bs.map V.bl) /\ Q (.bl (bs.all id)) H) Mw := by
 intro σ ρ H₀ Hf₀ H Hf xs ds d Q R hx hφ k
 unfold Mw at hφ
 split at hφ
 ·obtain ⟨bs, e1, rfl⟩ := g1w.mp hφ
  obtain ⟨v, rfl, hv⟩ := hx.one
  obtain ⟨a, ys, rfl, q, l⟩ := hv.lst R
  have := l.bools e1
  subst this
  exact ⟨a, bs, rfl, q, k _ _ _ R zx zx (Has.bl_iff.mpr rfl)⟩
 ·cases hφ
theorem Ce : FnR X (fun xs H Q => ∃ (p : Addr) (ns : List Int), xs = [.ref p] /\ SqL X.K H p (ns.map V.int) /\ Q (.int ns.sum) H) MC := by
 intro σ ρ H₀ Hf₀ H Hf xs ds d Q R hx hφ k
 unfold MC at hφ
 split at hφ
 ·obtain ⟨bs, e1, rfl⟩ := g1w.mp hφ
  obtain ⟨v, rfl, hv⟩ := hx.one
  obtain ⟨a, ys, rfl, q, l⟩ := hv.lst R
  have := l.intsV e1
  subst this
  exact ⟨a, bs, rfl, q, k _ _ _ R zx zx (Has.int_iff.mpr rfl)⟩
 ·cases hφ
theorem kU : ∀ bs : List Bool, wY (bs.map D.bl) = some bs
 | [] => rfl
 | b :: bs => by rw [g0f, wY, kU bs]; rfl
theorem uJ : ∀ bs : List Int, v7 (bs.map D.int) = some bs
 | [] => rfl
 | b :: bs => by rw [g0f, v7, uJ bs]; rfl
@[simp] theorem MY (bs : List Bool) : Mw [.lst (bs.map D.bl)] = some (.bl (bs.all id)) := by show (wY (bs.map D.bl)).map _ = _; rw [kU]; rfl
@[simp] theorem MS (bs : List Int) : MC [.lst (bs.map D.int)] = some (.int bs.sum) := by show (v7 (bs.map D.int)).map _ = _; rw [uJ]; rfl
section
variable {prog : Program} {w : World} {A : Around} {E : Value -> Shared -> Prop} {s : Shared}
end
variable {X : Cx} {e : Expr} {f : FE} {pos : Pos}
section
variable {X : Cx} {pins : List (Addr × Obj)} {σ : St} {H : Hp} {s : Shared}
end
section
variable {X : Cx} {o e : Expr} {f g : FE} {kk : Nat}
end
section
variable {X : Cx} {tg : Expr}
end
section
variable {X : Cx} {a b c dd : Expr} {f g h i4 : FE} {pos p2 : Pos}
end
section
variable {X : Cx} {e : Expr} {f : FE} {pos : Pos}
def Ms (i : Nat) (op : Int -> Int -> Int) (f : FE) : FS := fun ρ => (f ρ).bind fun y => match ρ[i]?, y with
 | some (.fr (.int m)), .int k => some (.nx (ρ.set i (.fr (.int (op m k)))))
 | _, _ => none
theorem Cs {x : Str} {pos' : Pos} {op : Operator} {φ : Int -> Int -> Int} (i : Nat) (hN : X.N.Nodup) (ho : PIp X op (ipI φ)) (he : DE X e f) (hi : X.N[i]? = some x := by rfl) (hx : Loc X.env.scope x := by first | exact Or.inl rfl | exact Or.inr rfl)
  (hf : X.fn x = true \/ X.env.scope.names.lookup x = some .local := by first | exact .inl rfl | exact .inr rfl | assumption) : DS X (.AugAssign (.Name x pos') op e pos) (Ms i φ f) :=
 xN (DL hN hi hx he ho hf) fun D' σ H ⟨H₀, Hf₀, ρ, Hf, o, R, q, k⟩ => by
  obtain ⟨y, e1, e2⟩ := zL q
  split at e2
  ·cases e2
   rename_i m kk el
   obtain ⟨v, p1, p2⟩ := R.fr i _ el
   have pv := Has.int_iff.mp p2
   subst pv
   refine ⟨.int m, p1, H₀, Hf₀, ρ, Hf, .int kk, R, e1, fun v H1 Hf1 R1 s1 t1 h1 => ?_⟩
   exact ⟨m, kk, rfl, Has.int_iff.mp h1, k _ _ _ (R1.set i (Has.int_iff.mpr rfl)) t1⟩
  ·cases e2
@[simp] theorem NU {i : Nat} {op : Int -> Int -> Int} {ρ : Rho} : Ms i op f ρ = (f ρ).bind fun y => match ρ[i]?, y with
 | some (.fr (.int m)), .int k => some (.nx (ρ.set i (.fr (.int (op m k)))))
 | _, _ => none := rfl
end
section
variable {X : Cx} {e : Expr} {f : FE}
end
section
variable {prog : Program} {w : World} {A : Around} {E : Value -> Shared -> Prop} {s : Shared}
end
section
variable {P : Program} {w : World} {K : W.Frag} {J1 J2 : It} {fp1 fp2 : List Addr} {i1 i2 z TI TO : Addr} {tn1 tn2 : Nat -> Heap -> Prop}
end
section
variable {prog : Program} {w : World} {A : Around} {E : Value -> Shared -> Prop} {s : Shared}
end
section
variable {X : Cx} {e1 e2 : Expr} {f1 f2 : FE} {pos : Pos} {elts : List Expr} {kx : Nat} {tp : Pos}
end
theorem X8 : ∀ {a b : List Int}, a.Perm b -> a.Pairwise (· <= ·) -> b.Pairwise (· <= ·) -> a = b
 | [], b, h, _, _ => (List.nil_perm.mp h).symm
 | x :: a, [], h, _, _ => by have := h.length_eq; simp at this
 | x :: a, y :: b, h, ha, hb => by
  rw [g3g] at ha hb
  have e : x = y := by
   have h1 : x ∈ y :: b := h.subset g0l
   have h2 : y ∈ x :: a := h.symm.subset g0l
   rcases g0n.mp h1 with h1 | h1
   ·exact h1
   ·rcases g0n.mp h2 with h2 | h2
    ·exact h2.symm
    ·have := hb.1 x h1
     have := ha.1 y h2
     omega
  subst e
  rw [X8 h.cons_inv ha.2 hb.2]
def CZ (x : Int) : List Int -> List Int
 | [] => [x]
 | y :: l => if x <= y then x :: y :: l else y :: CZ x l
def uP : List Int -> List Int
 | [] => []
 | x :: l => CZ x (uP l)
theorem kE (x : Int) : ∀ l, (CZ x l).Perm (x :: l)
 | [] => .refl _
 | y :: l => by
  unfold CZ
  split
  ·exact .refl _
  ·exact ((kE x l).cons y).trans (.swap x y l)
theorem vh : ∀ l, (uP l).Perm l
 | [] => .refl _
 | x :: l => (kE x (uP l)).trans ((vh l).cons x)
theorem kC (x : Int) : ∀ {l : List Int}, l.Pairwise (· <= ·) -> (CZ x l).Pairwise (· <= ·)
 | [], _ => List.pairwise_singleton _ _
 | y :: l, h => by
  have h' := g3g.mp h
  unfold CZ
  split
  ·rename_i c
   refine g3g.mpr ⟨fun z hz => ?_, h⟩
   rcases g0n.mp hz with rfl | hz
   ·exact c
   ·exact Int.le_trans c (h'.1 z hz)
  ·rename_i c
   refine g3g.mpr ⟨fun z hz => ?_, kC x h'.2⟩
   rcases g0n.mp ((kE x l).subset hz) with rfl | hz
   ·omega
   ·exact h'.1 z hz
theorem ug : ∀ l : List Int, (uP l).Pairwise (· <= ·)
 | [] => .nil
 | x :: l => kC x (ug l)
theorem Km {a b : List Int} (h : a.Perm b) (ha : a.Pairwise (· <= ·)) : uP b = a := X8 ((vh b).trans h.symm) (ug b) ha
section
variable {X : Cx} {e : Expr} {pos : Pos}
theorem vals_ints {us : List Value} {ns : List Int} (h : IntsAre us ns) : yP (ns.map V.int) us := by
 induction h with
 | nil => exact .nil
 | cons _ _ _ ih => exact .cons ⟨_, rfl⟩ ih
theorem WA : w6 X (.builtin "sorted") (fun xs H Q => ∃ (p : Addr) (ns : List Int), xs = [.ref p] /\ SqL X.K H p (ns.map V.int) /\ ns.length < 64 /\ ∀ l, H l = none -> Q (.ref l) (upd H l (.lst ((uP ns).map V.int)))) := by
 intro pins s σ H xs us Q I r h
 obtain ⟨p, ns, rfl, hq, hn, q⟩ := h
 obtain ⟨u, rfl, rx⟩ := Zi r
 cases rx
 obtain ⟨its, r', pl, hz⟩ := I.list hq
 have hi := Yp r'
 have hlen := r'.length
 rw [g0k] at hlen hz
 refine sorted_ints (vs := its) pl.isList hi (by omega) fun out ns' a1 a2 a3 => ?_
 obtain ⟨e, he⟩ := sortedAll_at s.heap its out
 have es : uP ns = ns' := Km a2 a3
 have hf : H (s.heap.objs.size + 1) = none := I.hok.fresh (g3a _)
 have q' := q _ hf
 rw [es] at q'
 exact ⟨.ref (s.heap.objs.size + 1), _, I.laid (t' := s.toks) (fun b o x => sortedAll_old x) (g3a _) (show we X.prog X.w _ (sortedAll s.heap its out) _ (.lst (ns'.map V.int)) from ⟨by rw [g0k, a2.length_eq]; exact hz, out.toList, e, vals_ints a1, by simpa using he⟩), rfl, q'⟩
def Kk (fa : FA) : FA := fun ρ => (fa ρ).bind fun l => match l with
 | [.lst ds] => (v7 ds).bind fun ns => if ns.length < 64 then some ((uP ns).map D.int) else none
 | _ => none
@[simp] theorem HL {fa : FA} {ρ : Rho} : Kk fa ρ = (fa ρ).bind fun l => match l with
 | [.lst ds] => (v7 ds).bind fun ns => if ns.length < 64 then some ((uP ns).map D.int) else none
 | _ => none := rfl
theorem Xg {K : W.Frag} {H : Hp} : ∀ ns : List Int, zP K H (ns.map D.int) (ns.map V.int)
 | [] => .nil
 | n :: ns => .cons (Has.int_iff.mpr rfl) (Xg ns)
theorem WB : bootBuiltins "sorted" = some (.builtin "sorted") := by kernel_rfl
theorem Jq {es : List Expr} {fa : FA} {p : Pos} (hg : Gl X "sorted") (hm : X.mg "sorted" = none) (ha : DAR X (e :: es) fa)
  (he : starEach (e :: es) X.env = (false, eval e X.env) :: starEach es X.env := by rfl) (hpl : (backTo pos (starEach es X.env)).any (·.1) = false := by rfl) : DN X (.Call (.Name "sorted" p) (e :: es) [] pos) (Kk fa) :=
 yy (Yf (id := "sorted") WA hg hm WB ha (by decide) (by decide) he hpl) fun σ H Q ⟨H₀, Hf₀, ρ, Hf, d, R, q, k⟩ => by
  obtain ⟨l, e1, e2⟩ := yp q
  refine ⟨H₀, Hf₀, ρ, Hf, l, R, e1, fun vs H1 Hf1 R1 s1 t1 h1 => ?_⟩
  split at e2
  ·rename_i ds
   obtain ⟨ns, e3, e4⟩ := g1e.mp e2
   split at e4
   ·rename_i hn
    cases e4
    obtain ⟨v, rfl, hv⟩ := kZ.one h1
    obtain ⟨a, ys, rfl, q, l⟩ := hv.lst R1
    have ey := zP.intsV l e3
    subst ey
    exact ⟨a, ns, rfl, q, hn, fun p hp => k _ _ _ _ (R1.layN hp) (s1.trans (zy hp)) t1 (Xg _) zq (R1.sf.free hp) (s1.free hp)⟩
   ·cases e4
  ·cases e2
end
section
variable {X : Cx}
end
section
variable {prog : Program} {w : World} {A : Around} {E : Value -> Shared -> Prop} {s : Shared}
end
section
variable {X : Cx} {e st : Expr} {f fs : FE} {pos p2 : Pos}
end
section
variable {O : KeyOrd} {n : Nat} {key : Nat -> O.α}
open KeyOrd
end
open PySem.AutoSeq1 (wpAny_loadPart')
open PySem.MeetsSeq PySem.MeetsSeq2 PySem.MeetsSeq3
section
variable {prog : Program} {w : World} {A : Around} {E : Value -> Shared -> Prop} {s : Shared}
end
section
variable {X : Cx} {pins : List (Addr × Obj)} {σ : St} {H : Hp} {s : Shared} {A : Around}
end
section
variable {X : Cx} {pins : List (Addr × Obj)} {σ : St} {H : Hp} {s : Shared}
end
section
variable {X : Cx} {e : Expr} {pos : Pos} {kk : Nat}
end
section
variable {α : Type} {P : List α -> Prop}
theorem PF (k : P []) : ∀ us : List α, us.length = 0 -> P us
 | [], _ => k
theorem UO (k : ∀ a, P [a]) : ∀ us : List α, us.length = 1 -> P us
 | a :: us, h => PF (P := fun us => P (a :: us)) (k a) us (Nat.succ.inj h)
theorem ZW (k : ∀ a b, P [a, b]) : ∀ us : List α, us.length = 2 -> P us
 | a :: us, h => UO (P := fun us => P (a :: us)) (k a) us (Nat.succ.inj h)
theorem Hy (k : ∀ a b c, P [a, b, c]) : ∀ us : List α, us.length = 3 -> P us
 | a :: us, h => ZW (P := fun us => P (a :: us)) (k a) us (Nat.succ.inj h)
end
def Fy : D -> Option Key
 | .int i => some (.inl i)
 | .str x => some (.inr x)
 | _ => none
def vB : List D -> Option (List Key)
 | [] => some []
 | d :: ds => (Fy d).bind fun k => (vB ds).bind fun ks => some (k :: ks)
def Hl : Key -> D
 | .inl i => .int i
 | .inr x => .str x
theorem wR : ∀ {ds : List D} {ks : List Key}, vB ds = some ks -> ds = ks.map Hl
 | [], ks, h => by cases h; rfl
 | d :: ds, ks, h => by
  unfold vB at h
  obtain ⟨k, h1, h⟩ := g1e.mp h
  obtain ⟨r, h2, h⟩ := g1e.mp h
  cases h
  rw [wR h2, g0f]
  congr 1
  unfold Fy at h1
  split at h1 <;> cases h1 <;> rfl
theorem qz {K : W.Frag} {H : Hp} : ∀ {ks : List Key} {xs : List V}, zP K H (ks.map Hl) xs -> xs = ks.map kV
 | [], xs, h => zP.nil_iff.mp h
 | k :: ks, xs, h => by
  obtain ⟨x, r, rfl, h1, h2⟩ := zP.cons_iff.mp h
  rw [qz h2, g0f]
  congr 1
  cases k with
  | inl i => exact Has.int_iff.mp h1
  | inr z => exact Has.str_iff.mp h1
theorem Xe {K : W.Frag} {H : Hp} : ∀ (ks : List Key), zP K H (ks.map Hl) (ks.map kV)
 | [] => .nil
 | k :: ks => .cons (by cases k with
  | inl i => exact Has.int_iff.mpr rfl
  | inr z => exact Has.str_iff.mpr rfl) (Xe ks)
def KA {κ : Type} [DecidableEq κ] (kvs : List (κ × D)) (k : κ) (v : D) : List (κ × D) :=
 if (kvs.any fun kv => decide (kv.1 = k)) = true then kvs.map (fun kv => if kv.1 = k then (kv.1, v) else kv) else kvs ++ [(k, v)]
theorem KVs.any {K : W.Frag} {H : Hp} {κ : Type} [DecidableEq κ] {kvs : List (κ × D)} {ws : List (κ × V)} (r : KVs K H kvs ws) (k : κ) : (kvs.any fun kv => decide (kv.1 = k)) = ws.any fun kv => decide (kv.1 = k) := by
 induction r with
 | nil => rfl
 | cons h t ih => rw [g2p, g2p, ih, h.1]
theorem KVs.putAll {K : W.Frag} {H : Hp} {κ : Type} [DecidableEq κ] {kvs : List (κ × D)} {ws : List (κ × V)} (r : KVs K H kvs ws) (k : κ) {d : D} {v : V} (hv : Has K H d v) :
  KVs K H (kvs.map (fun kv => if kv.1 = k then (kv.1, d) else kv)) (ws.map (fun kv => if kv.1 = k then (kv.1, v) else kv)) := by
 induction r with
 | nil => exact .nil
 | @cons p q ps qs h t ih =>
  rw [g0f, g0f]
  refine .cons ?_ ih
  by_cases e : p.1 = k
  ·rw [if_pos e, if_pos (h.1.symm.trans e)]; exact ⟨h.1, hv⟩
  ·rw [if_neg e, if_neg (fun z => e (h.1.trans z))]; exact h
theorem KVs.snoc {K : W.Frag} {H : Hp} {κ : Type} {kvs : List (κ × D)} {ws : List (κ × V)} (r : KVs K H kvs ws) {k : κ} {d : D} {v : V} (hv : Has K H d v) : KVs K H (kvs ++ [(k, d)]) (ws ++ [(k, v)]) := by
 induction r with
 | nil => exact .cons ⟨rfl, hv⟩ .nil
 | cons h t ih => exact .cons h ih
theorem KVs.put {K : W.Frag} {H : Hp} {κ : Type} [DecidableEq κ] {kvs : List (κ × D)} {ws : List (κ × V)} (r : KVs K H kvs ws) (k : κ) {d : D} {v : V} (hv : Has K H d v) : KVs K H (KA kvs k d) (V9 ws k v) := by
 unfold KA V9
 rw [r.any k]
 split
 ·exact r.putAll k hv
 ·exact r.snoc hv
theorem KVs.length {K : W.Frag} {H : Hp} {κ : Type} {kvs : List (κ × D)} {ws : List (κ × V)} (r : KVs K H kvs ws) : kvs.length = ws.length := Paired.length r
section
variable {X : Cx} {pos : Pos} {kk : Nat}
def GG (i : Nat) : FS := fun ρ => some (.nx (ρ.set i (.oT [])))
theorem Cr {x : Str} {pos' dpos : Pos} (i : Nat) (hN : X.N.Nodup) (hi : X.N[i]? = some x := by rfl) (hx : Loc X.env.scope x := by first | exact Or.inl rfl | exact Or.inr rfl) (hs : swapsWith (.Dict [] [] dpos) (some (.Name x pos')) pos.line X.env = pure false := by rfl)
  (hf : X.fn x = true \/ X.env.scope.names.lookup x = some .local := by first | exact .inl rfl | exact .inr rfl | assumption) : DS X (.Assign [.Name x pos'] (.Dict [] [] dpos) pos) (GG i) :=
 xN (W8 hN hi hx (KJ (pos := dpos)) hs hf) fun D' σ H ⟨H₀, Hf₀, ρ, Hf, o, R, q, k⟩ => by
  cases q
  intro p hp
  refine k _ _ _ ((R.layN hp).setOwn i rfl ⟨[], zq, .nil⟩ (R.sf.free hp) (R.s0.free hp) ?_) zx
  intro j sl z o z'
  obtain ⟨b, p1, p2, _⟩ := R.ow j sl z o
  rw [p1] at z'; cases z'
  obtain ⟨ob, q'⟩ := p2.there o
  rw [q'] at hp; cases hp
def Jo (i : Nat) (fa : FA) (g : FE) : FS := fun ρ => (g ρ).bind fun v => (fa ρ).bind fun ks => match ρ[i]? with
 | some (.oT kvs) => (vB ks).bind fun k => if kvs.length < sizeLine /\ ks.length <= sizeLine then some (.nx (ρ.set i (.oT (KA kvs k v)))) else none
 | _ => none
theorem Cq {x : Str} {es : List Expr} {x1} {p1 tp sp : Pos} {value : Expr} {fa : FA} {g : FE} (i : Nat) (hr : Room kk X.A) (hv : DE X value g) (ha : DA X es fa) (hN : X.N[i]? = some x := by rfl) (hvis : Vis X.env.scope x := by first | exact Or.inl rfl | exact Or.inr (Or.inl rfl) | exact Or.inr (Or.inr rfl))
  (hd : (x == ("__debug__" : Str)) = false := by decide) (hcd : (x == ("__classdict__" : Str)) = false := by decide)
  (hs : swapsWith value (some (.Subscript (.Name x p1) (.Tuple es x1 tp) sp)) pos.line X.env = pure false := by rfl) :
  DS X (.Assign [.Subscript (.Name x p1) (.Tuple es x1 tp) sp] value pos) (Jo i fa g) :=
 xN (Qj (by have := hr.un; omega) (uj hN hvis hd hcd) (Qp ha) hv hs) fun D' σ H ⟨H₀, Hf₀, ρ, Hf, o, R, q, k⟩ => by
  unfold Jo at q
  obtain ⟨v, e1, q⟩ := g1e.mp q
  obtain ⟨ks, e2, q⟩ := g1e.mp q
  split at q
  ·rename_i kvs el
   obtain ⟨kk, e3, q⟩ := g1e.mp q
   split at q
   ·rename_i hz
    cases q
    obtain ⟨a, p1, _⟩ := R.ow i _ el rfl
    refine ⟨H₀, Hf₀, ρ, Hf, v, R, e1, fun v1 H1 Hf1 R1 s1 t1 h1 => ⟨_, p1, H₀, Hf₀, ρ, Hf1, ks, R1, e2, fun vs H2 Hf2 R2 s2 t2 h2 => ⟨by rw [h2.length]; exact hz.2, fun p hp => ?_⟩⟩⟩
    have R3 := R2.lay (o := .tup vs) hp
    obtain ⟨a', r1, ⟨ws, r2, r3⟩, r4, r5⟩ := R3.ow i _ el rfl
    rw [p1] at r1; cases r1
    rw [wR e3] at h2
    have ev := qz h2
    have hzw : ws.length < sizeLine := by rw [<- r3.length]; exact hz.1
    refine ⟨a, _, rfl, C2.t r2 (by rw [zq, ev]) hzw, ?_⟩
    have sm : yi Hf1 (upd Hf2 p (.tup vs)) := t2.trans (zy (R2.sf.free hp))
    exact k _ _ _ (R3.updOwn el rfl p1 rfl ⟨_, zq, r3.put kk (h1.mono sm)⟩) (t1.trans sm)
   ·cases q
  ·cases q
end
section
variable {prog : Program} {w : World} {A : Around} {E : Value -> Shared -> Prop} {s : Shared}
theorem Uv {d : Addr} {Q : Value -> Shared -> Prop} (hd : (d == sysModules) = false) (hT : s.TypeIs (.ref d) "dict")
  (hQ : Q (.ref s.heap.objs.size) { s with heap := s.heap.push { cls := .type "dict_items", data := .fields #[.ref d] } }) : wpAny (model prog w) A (call (.builtin "dict.items") [.ref d]) Q E s := by
 refine wpAny_call_entry PySem.F.slot_dict_items hT PySem.F.entry_dict_items ?_ (PySem.F.args_dict_items_1 _)
 unfold Builtin.«dict.items»
 refine wpAny_bind ?_
 unfold Builtin.Dict.noArgs
 refine wpAny_bind (wpAny_notOrdered_dict hT ?_)
 show wpAny _ _ (pure d) _ _ s
 refine wpAny_pure ?_
 show wpAny _ _ (Builtin.Dict.showsAll d >>= _) _ _ s
 unfold Builtin.Dict.showsAll
 rw [if_neg (by rw [hd]; exact g1n)]
 refine wpAny_bind (wpAny_pure ?_)
 exact wpAny_bind (wpAny_newObj_type (wpAny_pure ⟨_, rfl, hQ⟩))
theorem Uy {v d : Addr} {o : Obj} {es : Array DictEntry} {ep : Nat} {Q : Value -> Shared -> Prop} (hv : s.heap.IsItemsView v d) (ho : s.heap.get? d = some o) (hdat : o.data = .dict es ep)
  (hQ : Q (.ref s.heap.objs.size) { s with heap := s.heap.push { cls := .type "dict_itemiterator", data := .fields #[.none, .bool false, .ref d, .int 0 0, .int es.size 0, .int ep 0, .none, .none] } }) :
  wpAny (model prog w) A (pyIter (.ref v)) Q E s := by
 obtain ⟨ov, hov, hcv, hdv⟩ := id hv
 refine wpAny_pyIter_slot hv.typeIs F.slot_dict_items_iter (wpAny_call_entry F.slot_dict_items_iter hv.typeIs F.entry_dict_items_iter ?_ (F.args_dict_items_iter_1 _))
 unfold Builtin.«dict_items.__iter__»
 refine wpAny_bind (wpAny_pure (wpAny_bind ?_))
 unfold Builtin.Dict_items.dictOf
 refine wpAny_bind (wpAny_field hov hdv (x := .ref d) rfl (wpAny_pure (wpAny_bind ?_)))
 unfold Builtin.Dict_items.newIterator
 refine wpAny_bind (wpAny_dictEntries ho hdat (wpAny_bind (wpAny_dictEpoch ho hdat ?_)))
 have hown : Builtin.Dict_items.ownsTuple "dict_itemiterator" = true := by decide
 simp only [hown, if_true]
 refine wpAny_newObj_type (wpAny_pure ⟨_, rfl, "dict_itemiterator", _, ⟨_, Heap.get?_push_size _ rfl, rfl⟩, F.slot_dict_itemiterator_next.lookup, ?_⟩)
  (by simp only [sizeOk, Builtin.Dict_items.ownedTupleFields, g0p, g0h, g0d, g0m, sizeLine_eq]; omega)
 simpa [rawInt, Builtin.Dict_items.ownedTupleFields] using hQ
theorem Ux {it d : Addr} {i ep : Nat} {od : Obj} {es : Array DictEntry} {ok ov : Value} {Q : Option Value -> Shared -> Prop} (hit : IsItemIter s.heap it d i es.size ep ok ov) (hod : s.heap.get? d = some od) (hdd : od.data = .dict es ep) (hlt : i < es.size)
  (hQ : ∀ h', IsItemIterOut h' it d (i + 1) es.size ep es[i].key es[i].val s.heap.objs.size -> h'.get? s.heap.objs.size = some { cls := .type "tuple", data := .seq #[es[i].key, es[i].val] } →
   (∀ b o, b ≠ it -> s.heap.get? b = some o -> h'.get? b = some o) -> Q (some (.ref s.heap.objs.size)) { s with heap := h' }) : wpAny (model prog w) A (pyNext (.ref it)) Q E s := by
 obtain ⟨hp, g, dr, tk, os⟩ := s
 have hT : Shared.TypeIs ⟨hp, g, dr, tk, os⟩ (.ref it) "dict_itemiterator" := ⟨_, hit, rfl⟩
 have hown : Builtin.Dict_items.ownsTuple "dict_itemiterator" = true := by decide
 have hil : it < hp.objs.size := Heap.lt_size hit
 unfold pyNext
 refine wpAny_bind (wpAny_attempt (wpAny_callSpecial?_slot (name := Str.ofString "__next__") hT F.slot_dict_itemiterator_next
  (wpAny_call_entry F.slot_dict_itemiterator_next hT F.entry_dict_itemiterator_next ?_ (F.args_dict_itemiterator_next_1 _))))
 refine wpAny_bind (wpAny_pure (wpAny_bind (wpAny_bind ?_)))
 first | refine wpAny_bind (wpAny_typeNameOfWhole_itemiter hT (wpAny_pure ?_)) | refine wpAny_bind (wpAny_typeNameOf_itemiter hT (wpAny_pure ?_))
 refine wpAny_bind (wpAny_fieldsOf hit rfl ?_)
 simp only [hown, if_true]
 show wpAny _ _ (if (Value.ref d == Value.none) = true then _ else _) _ _ _
 rw [if_neg (show ¬ ((Value.ref d == Value.none) = true) from g1n)]
 refine wpAny_bind (wpAny_pure (wpAny_bind (wpAny_dictEntries hod hdd ?_)))
 rw [if_neg (by simp)]
 refine wpAny_bind (wpAny_pure (wpAny_bind (wpAny_dictEpoch hod hdd ?_)))
 rw [if_neg (by simp)]
 refine wpAny_pure ?_
 simp only [show ¬ ((i : Int) < 0) from by omega, if_false, Int.toNat_natCast, Array.getElem?_eq_getElem hlt]
 refine wpAny_bind ?_
 first | refine wpAny_bind (wpAny_typeNameOfWhole_itemiter hT (wpAny_pure ?_)) | refine wpAny_bind (wpAny_typeNameOf_itemiter hT (wpAny_pure ?_))
 refine wpAny_bind (wpAny_isOneOf_itemiter hT ?_)
 show wpAny _ _ (setField (.ref it) 3 (rawInt ((i : Int) + 1)) >>= _) _ _ ⟨hp, g, dr, tk, os⟩
 refine wpAny_bind (wpAny_setField_rec hit (by simp) fun h₁ he₁ hs₁ => ?_)
 replace hs₁ : Heap.SameBut it hp h₁ := hs₁
 replace he₁ : IsItemIter h₁ it d (i + 1) es.size ep ok ov := by
  have e : ((i + 1 : Nat) : Int) = (i : Int) + 1 := by omega
  unfold IsItemIter
  rw [e]
  simpa [rawInt] using he₁
 have hT₁ : Shared.TypeIs ⟨h₁, g, dr, tk, os⟩ (.ref it) "dict_itemiterator" := ⟨_, he₁, rfl⟩
 refine wpAny_bind (wpAny_holding (wpAny_bind (wpAny_isOneOf_itemiter hT₁ (wpAny_bind (wpAny_isOneOf_itemiter hT₁ ?_)))))
 show wpAny _ _ (Builtin.Dict_items.pairFromOwner (.ref it) 6 es[i].key es[i].val) _ _ ⟨h₁, g, dr, tk, os⟩
 unfold Builtin.Dict_items.pairFromOwner
 refine wpAny_bind (wpAny_newTuple ?_)
 have he₂ : IsItemIter (h₁.push { cls := .type "tuple", data := .seq #[es[i].key, es[i].val] }) it d (i + 1) es.size ep ok ov := Heap.get?_push_of_some _ he₁
 have hz₁ : h₁.objs.size = hp.objs.size := hs₁.1
 have ht₂ : (h₁.push { cls := .type "tuple", data := .seq #[es[i].key, es[i].val] }).get? hp.objs.size = some { cls := .type "tuple", data := .seq #[es[i].key, es[i].val] } := by rw [<- hz₁]; exact Heap.get?_push_size _ rfl
 have hk₂ : ∀ b o, b ≠ it -> hp.get? b = some o -> (h₁.push { cls := .type "tuple", data := .seq #[es[i].key, es[i].val] }).get? b = some o := fun b o hb e => Heap.get?_push_of_some _ (hs₁.extBut b o hb e)
 generalize h₁.push { cls := .type "tuple", data := .seq #[es[i].key, es[i].val] } = h₂ at he₂ ht₂ hk₂
 show wpAny _ _ (Builtin.Dict_items.ownedTupleIsFree (.ref it) >>= _) _ _ ⟨h₂, g, dr, tk, os⟩
 rw [hz₁]
 refine wpAny_bind ?_
 unfold Builtin.Dict_items.ownedTupleIsFree
 refine wpAny_bind (wpAny_field he₂ rfl (x := .none) rfl (wpAny_pure ?_))
 simp only [if_true]
 refine wpAny_bind (wpAny_field he₂ rfl (x := ok) rfl (wpAny_bind (wpAny_field he₂ rfl (x := ov) rfl ?_)))
 refine wpAny_bind (wpAny_setField_rec he₂ (by simp) fun h₃ he₃ hs₃ => ?_)
 replace he₃ : IsItemIter h₃ it d (i + 1) es.size ep es[i].key ov := he₃
 refine wpAny_bind (wpAny_setField_rec he₃ (by simp) fun h₄ he₄ hs₄ => ?_)
 replace he₄ : IsItemIter h₄ it d (i + 1) es.size ep es[i].key es[i].val := he₄
 refine wpAny_bind (wpAny_setField_rec he₄ (by simp) fun h₅ he₅ hs₅ => ?_)
 replace he₅ : IsItemIterOut h₅ it d (i + 1) es.size ep es[i].key es[i].val hp.objs.size := he₅
 refine wpAny_bind (wpAny_setField_rec he₅ (by simp) fun h₆ he₆ hs₆ => ?_)
 replace he₆ : IsItemIterOut h₆ it d (i + 1) es.size ep es[i].key es[i].val hp.objs.size := he₆
 have all : ∀ b o, b ≠ it -> h₂.get? b = some o -> h₆.get? b = some o := fun b o hb e => Heap.SameBut.extBut hs₆ b o hb (Heap.SameBut.extBut hs₅ b o hb (Heap.SameBut.extBut hs₄ b o hb (Heap.SameBut.extBut hs₃ b o hb e)))
 exact wpAny_bind (wpAny_letGo (wpAny_pure (wpAny_pure ⟨_, rfl, wpAny_pure (hQ h₆ he₆ (all _ _ (Nat.ne_of_gt hil) ht₂) fun b o hb e => all b o hb (hk₂ b o hb e))⟩)))
theorem Uw {it d : Addr} {i ep : Nat} {od : Obj} {es : Array DictEntry} {ok ov : Value} {Q : Option Value -> Shared -> Prop} (hh : A.handled = none) (hit : IsItemIter s.heap it d i es.size ep ok ov) (hod : s.heap.get? d = some od) (hdd : od.data = .dict es ep) (hge : es.size <= i)
  (hQ : ∀ h', Heap.ExtBut it s.heap h' -> Q none { s with heap := h' }) : wpAny (model prog w) A (pyNext (.ref it)) Q E s := by
 have hT : s.TypeIs (.ref it) "dict_itemiterator" := ⟨_, hit, rfl⟩
 have hown : Builtin.Dict_items.ownsTuple "dict_itemiterator" = true := by decide
 unfold pyNext
 refine wpAny_bind (wpAny_attempt (wpAny_callSpecial?_slot (name := Str.ofString "__next__") hT F.slot_dict_itemiterator_next
  (wpAny_call_entry F.slot_dict_itemiterator_next hT F.entry_dict_itemiterator_next ?_ (F.args_dict_itemiterator_next_1 _))))
 refine wpAny_bind (wpAny_pure (wpAny_bind (wpAny_bind ?_)))
 first | refine wpAny_bind (wpAny_typeNameOfWhole_itemiter hT (wpAny_pure ?_)) | refine wpAny_bind (wpAny_typeNameOf_itemiter hT (wpAny_pure ?_))
 refine wpAny_bind (wpAny_fieldsOf hit rfl ?_)
 simp only [hown, if_true]
 show wpAny _ _ (if (Value.ref d == Value.none) = true then _ else _) _ _ s
 rw [if_neg (show ¬ ((Value.ref d == Value.none) = true) from g1n)]
 refine wpAny_bind (wpAny_pure (wpAny_bind (wpAny_dictEntries hod hdd ?_)))
 rw [if_neg (by simp)]
 refine wpAny_bind (wpAny_pure (wpAny_bind (wpAny_dictEpoch hod hdd ?_)))
 rw [if_neg (by simp)]
 refine wpAny_pure ?_
 simp only [show ¬ ((i : Int) < 0) from by omega, if_false, Int.toNat_natCast, Array.getElem?_eq_none hge]
 refine wpAny_bind ?_
 first | refine wpAny_bind (wpAny_typeNameOfWhole_itemiter hT (wpAny_pure ?_)) | refine wpAny_bind (wpAny_typeNameOf_itemiter hT (wpAny_pure ?_))
 show wpAny _ _ (setField (.ref it) 2 .none >>= _) _ _ s
 refine wpAny_bind (wpAny_setField hit rfl (by simp) ?_)
 show wpAny _ _ (newExc (.type "StopIteration") [] >>= _) _ _ _
 refine wpAny_bind ?_
 simp only [newExc, newTuple]
 refine wpAny_bind (wpAny_newObj_type ?_ (by size_fits))
 refine wpAny_bind (m := firstArgMember _ _) (wpAny_of_eq (a := Value.none) (by first | rfl | (simp only [firstArgMember]; rfl)) ?_)
 refine wpAny_newObj_type ?_ (by size_fits)
 simp only [raiseNew]
 refine wpAny_bind (wpAny_handled ?_)
 rw [show A.in1.handled = none from hh]
 refine wpAny_bind (wpAny_pure (wpAny_throw ?_))
 refine wpAny_bind (wpAny_isInstance (T := "StopIteration") (b := true) ⟨_, Heap.get?_push_size _ rfl, rfl⟩ isSubtype_stop ?_)
 exact wpAny_pure (hQ _ (((Heap.SameBut.update ..).extBut.push _).push _))
end
def ItD (a : Addr) (o : Obj) (ws : List (List Key × V)) : It :=
  ⟨fun i H => i < ws.length /\ H a = some (.frz o (.dT ws)),
   fun i H x H' => ∃ p b k v, ws[i]? = some (k, v) /\ H b = some (.tup (k.map kV)) /\ H p = none /\ x = .ref p /\ H' = upd H p (.tup [.ref b, v]),
   fun i H => ws.length <= i /\ H a = some (.frz o (.dT ws))⟩
theorem Paired.getP {α β : Type} {F : α -> β -> Prop} : ∀ {l : List α} {m : List β} {i : Nat} {x : α}, Paired F l m -> l[i]? = some x -> ∃ y, m[i]? = some y /\ F x y
 | _, _, 0, x, .cons h t, e => by
  rw [g0b] at e
  cases e
  exact ⟨_, g0b, h⟩
 | _, _, i + 1, x, .cons h t, e => by
  rw [g0c] at e
  obtain ⟨y, h1, h2⟩ := Paired.getP t e
  exact ⟨y, by rw [g0c]; exact h1, h2⟩
theorem VU {P : Program} {w : World} {K : W.Frag} {elts : List Expr} {kx : Nat} {tp : Pos} {a it : Addr} {o : Obj} {es : Array DictEntry} {ep : Nat} {ws : List (List Key × V)} (hod : o.data = .dict es ep) (hsz : es.size = ws.length) :
  Turn P w K (.Tuple elts kx tp) (ItD a o ws) [it] it (fun i h => ∃ ok ov, IsItemIter h it a i es.size ep ok ov) where
 mem := g0l
 obj := fun i h st b hb => by
  have e : b = it := by simpa using hb
  subst e
  obtain ⟨ok, ov, he⟩ := st
  exact ⟨_, he, fun v z => by cases z⟩
 keep := fun i h h' st k => by
  obtain ⟨ok, ov, he⟩ := st
  exact ⟨ok, ov, k it g0l _ he⟩
 item := by
  intro X hP hw hK hc i pins s σ H E I hf st hg
  subst hP hw hK
  obtain ⟨ok, ov, he⟩ := st
  obtain ⟨f0, f1, f2, f3, f4, f5⟩ := hf it g0l
  obtain ⟨hlt, ha⟩ := hg
  obtain ⟨hoa, hz, hd, xs, rel, o', es', ep', h1, h2, h3, h4, h5⟩ := (show s.heap.get? a = some o /\ we X.prog X.w H s.heap a (.dT ws) from I.hok a _ ha)
  rw [hoa] at h1
  cases h1
  rw [hod] at h3
  cases h3
  have hi : i < es.size := by rw [hsz]; exact hlt
  obtain ⟨q, hq, r1, r2, r3⟩ := Paired.getP rel (g1i hlt)
  have hes : es[i] = entryOfKey (tupleKind (xj X.prog X.w)) q := by
   have e1 : es.toList[i]? = some es[i] := by simp [hi]
   rw [h4, g0w, hq] at e1
   exact (g2h.inj e1).symm
  have ek : es[i].key = .ref q.2.1 := by rw [hes]; rfl
  have ev : es[i].val = q.2.2 := by rw [hes]; rfl
  refine Ux he hoa hod hi fun h' hout htup hkeep => ⟨_, rfl, ?_⟩
  rw [ek, ev] at htup
  refine wpAny_letOwnedTupleGo_items hout fun h'' he'' hs'' => ?_
  have hil : it < s.heap.objs.size := Heap.lt_size he
  have hfp : H s.heap.objs.size = none := I.hok.fresh (g0r _)
  have I1 : Inv X pins σ (upd H s.heap.objs.size (.tup [.ref q.2.1, ws[i].2])) { s with heap := s.heap.push { cls := .type "tuple", data := .seq #[.ref q.2.1, q.2.2] }, toks := s.toks } :=
   I.laid (t' := s.toks) (fun b u e => Heap.get?_push_of_some _ e) (g0r _) ⟨by show 2 <= sizeLine; decide, [.ref q.2.1, q.2.2], .cons rfl (.cons r3 .nil), ⟨_, Heap.get?_push_size _ rfl, rfl, _, rfl⟩⟩
  have fe : (upd H s.heap.objs.size (.tup [.ref q.2.1, ws[i].2])) it = none := by rw [zF (g1g hil)]; exact f0
  have I2 : Inv X pins σ (upd H s.heap.objs.size (.tup [.ref q.2.1, ws[i].2])) { s with heap := h'' } := I1.turned (t' := s.toks) (fun b ob hb e => by
   refine (hs''.2 b hb).trans ?_
   by_cases c : b = s.heap.objs.size
   ·subst c
    rw [Heap.get?_push_size _ rfl] at e
    cases e
    exact htup
   ·rw [Heap.get?_push_ne _ _ _ c] at e
    exact hkeep b ob hb e) fe f1 f3 f4 f5
  refine ⟨.ref s.heap.objs.size, _, I2, rfl, ⟨s.heap.objs.size, q.2.1, ws[i].1, ws[i].2, g1i hlt, r2, hfp, rfl, rfl⟩, ⟨_, _, he''⟩, fun b hb => ?_⟩
  have e : b = it := by simpa using hb
  subst e
  exact fe
 done := by
  intro X hP hw hK hc i pins s σ H E I hf st hg
  subst hP hw hK
  obtain ⟨ok, ov, he⟩ := st
  obtain ⟨f0, f1, f2, f3, f4, f5⟩ := hf it g0l
  obtain ⟨hle, ha⟩ := hg
  have hoa : s.heap.get? a = some o := (show s.heap.get? a = some o /\ we X.prog X.w H s.heap a (.dT ws) from I.hok a _ ha).1
  exact Uw (I.ok.hd hc) he hoa hod (by rw [hsz]; exact hle) fun h' hx => ⟨rfl, I.turned (t' := s.toks) (fun b ob hb e => hx b ob hb e) f0 f1 f3 f4 f5⟩
 self := fun A i s Q E st h => by
  obtain ⟨ok, ov, he⟩ := st
  exact PySem.W.kcp_self he h
def xA (kvs : List (List Key × D)) : List D := kvs.map fun kv => .tup [.tup (kv.1.map Hl), kv.2]
theorem XT {K : W.Frag} {Hf : Hp} {a : Addr} {o : Obj} {ws : List (List Key × V)} {kvs : List (List Key × D)} (ha : Hf a = some (.frz o (.dT ws))) (r : KVs K Hf kvs ws) : Walks K Hf (ItD a o ws) (xA kvs) := fun H' Hf' t sf i => by
 have ha' : H' a = some (.frz o (.dT ws)) := sf _ _ (t _ _ ha)
 have hlen := r.length
 refine ⟨fun d hd => ?_, fun hle => ⟨by unfold xA at hle; rw [g0k] at hle; omega, ha'⟩⟩
 unfold xA at hd
 rw [g0w] at hd
 cases hk : kvs[i]? with
 | none => rw [hk] at hd; cases hd
 | some kv =>
  rw [hk] at hd
  cases hd
  obtain ⟨⟨k0, v0⟩, hw, h1, h2⟩ := Paired.getP r hk
  have hi : i < ws.length := (g1a.mp hw).1
  refine ⟨⟨hi, ha'⟩, fun x H2 hy => ?_⟩
  obtain ⟨p, b, k, v, e1, e2, e3, rfl, rfl⟩ := hy
  rw [hw] at e1
  cases e1
  have hfp : Hf' p = none := sf.free e3
  have hbp : b ≠ p := ya e2 e3
  have hsb : ∀ u, Hf' b = some u -> u = .tup (k0.map kV) := fun u e => by
   have := sf _ _ e
   rw [e2] at this
   exact (g2h.inj this).symm
  have sm1 : yi Hf' (upd Hf' b (.tup (k0.map kV))) := fun c u e => by
   by_cases hc : c = b
   ·subst hc; rw [zq, hsb u e]
   ·rw [zF hc]; exact e
  have hfp1 : (upd Hf' b (.tup (k0.map kV))) p = none := by rw [zF (Ne.symm hbp)]; exact hfp
  have sm2 := zy (o := .tup [.ref b, v0]) hfp1
  refine ⟨upd (upd Hf' b (.tup (k0.map kV))) p (.tup [.ref b, v0]), ⟨zy e3, sm1.trans sm2, fun c u e => ?_, fun c u e => ?_⟩, ?_⟩
  ·by_cases hc : c = p
   ·subst hc; rw [zq] at e ⊢; exact e
   ·rw [zF hc] at e ⊢
    by_cases hc' : c = b
    ·subst hc'; rw [zq] at e; cases e; exact e2
    ·rw [zF hc'] at e; exact sf _ _ e
  ·by_cases hc : c = p
   ·subst hc; exact .inr (.inl e3)
   ·rw [zF hc] at e
    by_cases hc' : c = b
    ·subst hc'; rw [zq] at e; cases e; exact .inr (.inr ⟨k0, rfl⟩)
    ·rw [zF hc'] at e; exact .inl e
  ·have e1 : kv.1 = k0 := h1
   show Has K _ (.tup [.tup (kv.1.map Hl), kv.2]) (.ref p)
   rw [e1]
   refine Has.tup_iff.mpr ⟨p, [.ref b, v0], rfl, SqT.of zq, .cons (Has.tup_iff.mpr ⟨b, k0.map kV, rfl, SqT.of (by rw [zF hbp, zq]), Xe k0⟩) (.cons (h2.mono ((t.trans sm1).trans sm2)) .nil)⟩
section
variable {K : W.Frag} {H₀ Hf₀ : Hp} {σ : St} {ρ : Rho} {H Hf : Hp}
theorem Rep.letGo (R : Rep K H₀ Hf₀ σ ρ H Hf) {kvs : List (List Key × D)} {i : Nat} (e : ρ[i]? = some (.oT kvs)) {a : Addr} (ea : σ[i]? = some (some (.ref a))) (u : HO) : yi Hf (upd Hf a u) /\ Rep K H₀ Hf₀ σ (ρ.set i .no) (upd H a u) (upd Hf a u) := by
 obtain ⟨a', q1, ⟨ws, q2, q2'⟩, q3, q4⟩ := R.ow i _ e rfl
 rw [ea] at q1; cases q1
 have hil : i < ρ.length := (g1a.mp e).1
 have sm : yi Hf (upd Hf a u) := zy q3
 refine ⟨sm, fun b v z => ?_, fun b v z => ?_, fun b v z => ?_, R.f0.trans sm, by simp [R.len], fun j d z => ?_, fun j s1 z oz => ?_, fun j k s1 s2 b z oz z' oz' y y' => ?_⟩
 ·rw [zF (ya z q4)]; exact R.s0 b v z
 ·by_cases hb : b = a
  ·subst hb; rw [zq] at z ⊢; exact z
  ·rw [zF hb] at z ⊢; exact R.sf b v z
 ·by_cases hb : b = a
  ·subst hb; exact .inr (.inl q4)
  ·rw [zF hb] at z; exact R.nf b v z
 ·rw [g0x] at z
  by_cases hj : i = j
  ·rw [if_pos hj, if_pos hil] at z; cases z
  ·rw [if_neg hj] at z
   obtain ⟨v, p1, p2⟩ := R.fr j d z
   exact ⟨v, p1, p2.mono sm⟩
 ·rw [g0x] at z
  by_cases hj : i = j
  ·rw [if_pos hj, if_pos hil] at z
   cases z; cases oz
  ·rw [if_neg hj] at z
   obtain ⟨b, p1, p2, p3, p4⟩ := R.ow j s1 z oz
   have hba : b ≠ a := by
    rintro rfl
    exact hj (R.inj i j _ s1 b e rfl z oz ea p1)
   refine ⟨b, p1, p2.mono (fun o q => by rw [zF hba]; exact q) sm, ?_, p4⟩
   rw [zF hba]
   exact p3
 ·have own_at : ∀ (j : Nat) (s1 : Slot), (ρ.set i .no)[j]? = some s1 -> s1.own = true -> ρ[j]? = some s1 := fun j s1 z oz => by
   rw [g0x] at z
   by_cases hj : i = j
   ·rw [if_pos hj, if_pos hil] at z; cases z; cases oz
   ·rw [if_neg hj] at z; exact z
  exact R.inj j k s1 s2 b (own_at j s1 z oz) oz (own_at k s2 z' oz') oz' y y'
end
def tID (K : W.Frag) (i : Nat) : TI := fun σ H R' => ∃ H₀ Hf₀ ρ Hf kvs, Rep K H₀ Hf₀ σ ρ H Hf /\ ρ[i]? = some (.oT kvs) /\ ∀ J H' Hf', Rep K H₀ Hf₀ σ (ρ.set i .no) H' Hf' -> yi Hf Hf' -> Walks K Hf' J (xA kvs) -> R' J H'
section
variable {X : Cx} {pos : Pos} {body : List Stmt} {γ : FG} {B : FS}
theorem jJ : typeOf (.builtin "dict.items") = pure (.type "method_descriptor") := by show builtinType _ = _; rw [builtinType_eq_fast]; kernel_rfl
theorem KF {x : Str} {p1 apos cpos : Pos} {elts : List Expr} {kx : Nat} {tp : Pos} (i : Nat) (hN : X.N[i]? = some x := by rfl) (hvis : Vis X.env.scope x := by first | exact Or.inl rfl | exact Or.inr (Or.inl rfl) | exact Or.inr (Or.inr rfl))
  (hd : (x == ("__debug__" : Str)) = false := by decide) (hcd : (x == ("__classdict__" : Str)) = false := by decide)
  (hbase : attributeBase (.Name x p1) "items" X.env (eval (.Name x p1) X.env) = eval (.Name x p1) X.env := by rfl) (hline : (apos.endLine == cpos.line) = true := by rfl) :
  PI X (.Tuple elts kx tp) (.Call (.Attribute (.Name x p1) "items" apos) [] [] cpos) (tID X.K i) := by
 intro pins s σ H R' I h
 obtain ⟨H₀, Hf₀, ρ, Hf, kvs, R, e, k⟩ := h
 obtain ⟨a, q1, ⟨ws, q2, q2'⟩, q3, q4⟩ := R.ow i _ e rfl
 refine wpAny_Call_method0_late hbase hline (thn (uj hN hvis hd hcd pins s σ H (fun v H1 => v = .ref a /\ H1 = H) I ⟨_, q1, rfl, rfl⟩) fun v s1 ⟨y, H1, I1, r1, ey, eH⟩ => ?_)
 subst ey eH
 cases r1
 obtain ⟨hz, hd', xs, rel, o, es, ep, g1, g2, g3, g4, g5⟩ := (show we X.prog X.w H1 s1.heap a (.dT ws) from I1.hok a _ q2)
 have hT : s1.TypeIs (.ref a) "dict" := ⟨o, g1, g2.1⟩
 refine ⟨"dict", "dict.items", PySem.F.plainAttrs_dict, PySem.F.slot_dict_items, jJ, hT, ?_, ?_⟩
 ·intro a' ea
  cases ea
  exact ⟨o, g1, g2.2.1⟩
 ·refine Calls.callWith_builtin rfl (PySem.evalArgs_none (Uv hd' hT ?_))
  have hal : a < s1.heap.objs.size := Heap.lt_size g1
  have hsx : xs.length = es.size := by
   have := congrArg List.length g4
   rw [g0k, Array.length_toList] at this
   exact this.symm
  refine Uy (d := a) ⟨_, Heap.get?_push_size _ rfl, rfl, rfl⟩ (Heap.get?_push_of_some _ g1) g3 ?_
  obtain ⟨sm, R2⟩ := R.letGo e q1 (.frz o (.dT ws))
  have hsz1 : (s1.heap.push { cls := .type "dict_items", data := .fields #[.ref a] }).objs.size = s1.heap.objs.size + 1 := size_push' _ _
  have kp : ∀ b u, s1.heap.get? b = some u -> ((s1.heap.push { cls := .type "dict_items", data := .fields #[.ref a] }).push { cls := .type "dict_itemiterator", data := .fields #[.none, .bool false, .ref a, .int 0 0, .int es.size 0, .int ep 0, .none, .none] }).get? b = some u := fun b u z => Heap.get?_push_of_some _ (Heap.get?_push_of_some _ z)
  have I2 := I1.kept (t' := s1.toks) kp
  have ne : ∀ c ks, H1 c = some (.tup ks) -> c ≠ a := fun c ks z => Fl z q2 (fun z => nomatch z)
  have I3 := Wv (ob := .frz o (.dT ws)) (t' := s1.toks) I2 (by rw [q2]; exact True.intro) (Heap.SameBut.refl _ _) ⟨o, kp _ _ g1⟩
   ⟨kp _ _ g1, hz, hd', xs, Paired.mapP rel fun p q z => ⟨z.1, by rw [zF (ne _ _ z.2.1)]; exact z.2.1, z.2.2⟩, o, es, ep, kp _ _ g1, g2, g3, g4, g5⟩
  have hit : (s1.heap.push { cls := .type "dict_items", data := .fields #[.ref a] }).objs.size ≠ a := by rw [hsz1]; exact Nat.ne_of_gt (Nat.lt_succ_of_lt hal)
  refine ⟨_, [(s1.heap.push { cls := .type "dict_items", data := .fields #[.ref a] }).objs.size], _, _, _, rfl, I3, VU (a := a) (ws := ws) (elts := elts) (kx := kx) (tp := tp) g3 (by rw [<- hsx]; exact (Paired.length rel).symm), ⟨_, _, Heap.get?_push_size _ rfl⟩, fun b hb => ?_, k _ _ _ R2 sm (XT zq (KVs.mono sm q2'))⟩
  have eb : b = (s1.heap.push { cls := .type "dict_items", data := .fields #[.ref a] }).objs.size := by simpa using hb
  have hle : s1.heap.objs.size <= b := by rw [eb, hsz1]; exact g3a _
  exact uz.none' (Xi I1 hle) (by rw [zF (by rw [eb]; exact hit)]; exact I1.hok.fresh hle)
def Jb (i : Nat) (γ : FG) (B : FS) : FS := fun ρ => match ρ[i]? with
 | some (.oT kvs) => yC γ B (xA kvs) (ρ.set i .no)
 | _ => none
@[simp] theorem HQ {i : Nat} {γ : FG} {B : FS} {ρ : Rho} : Jb i γ B ρ = match ρ[i]? with
 | some (.oT kvs) => yC γ B (xA kvs) (ρ.set i .no)
 | _ => none := rfl
@[simp] theorem HU {i : Nat} {ρ : Rho} : GG i ρ = some (.nx (ρ.set i (.oT []))) := rfl
@[simp] theorem HS {i : Nat} {fa : FA} {g : FE} {ρ : Rho} : Jo i fa g ρ = (g ρ).bind fun v => (fa ρ).bind fun ks => match ρ[i]? with
 | some (.oT kvs) => (vB ks).bind fun k => if kvs.length < sizeLine /\ ks.length <= sizeLine then some (.nx (ρ.set i (.oT (KA kvs k v)))) else none
 | _ => none := rfl
theorem Cp {tg iter : Expr} {i0 : Nat} (hp : PassesOwn (model X.prog X.w) X.A X.env X.xe) (hc : X.calm = true) (hi : PI X tg iter (tID X.K i0)) (hg : DG X tg γ) (hb : DSs X body B)
  (hs : ∀ x, foldedSetIterable iter X.env x = pure x := by intro _; rfl) : DS X (.For tg iter body [] pos) (Jb i0 γ B) :=
 xN (G9 hp hc hi hg hb hs) fun D' σ H ⟨H₀, Hf₀, ρ, Hf, o, R, q, k⟩ => by
  unfold Jb at q
  split at q
  ·rename_i kvs el0
   refine ⟨H₀, Hf₀, ρ, Hf, kvs, R, el0, fun J H1 Hf1 R1 t1 wk => ?_⟩
   have k1 := k.mono t1
   refine ⟨fun i m σ H => m = (xA kvs).length - i /\ i <= (xA kvs).length /\ ∃ ρ Hf', Rep X.K H₀ Hf₀ σ ρ H Hf' /\ yi Hf1 Hf' /\ yC γ B ((xA kvs).drop i) ρ = some o, ⟨(xA kvs).length, by simp, g2e _, _, Hf1, R1, zx, by simpa using q⟩, ?_⟩
   rintro i m σ2 H2 ⟨rfl, hi, ρ2, Hf2, R2, t2, el⟩
   obtain ⟨w1, w2⟩ := wk H2 Hf2 t2 R2.sf i
   by_cases hil : i < (xA kvs).length
   ·right
    obtain ⟨go, yld⟩ := w1 _ (g1i hil)
    refine ⟨go, ?_⟩
    rw [g2l hil] at el
    unfold yC at el
    cases eg : γ (xA kvs)[i] ρ2 with
    | none => rw [eg] at el; cases el
    | some ρ3 =>
     rw [eg] at el
     simp only [g0a] at el
     obtain ⟨o1, eb, eo⟩ := vM el
     refine ⟨fun σ' H' => ∃ ρ' Hf', Rep X.K H₀ Hf₀ σ' ρ' H' Hf' /\ yi Hf1 Hf' /\ yC γ B ((xA kvs).drop (i + 1)) ρ' = some o, ?_, ?_⟩
     ·rintro σ' H' ⟨ρ', Hf', R', t', e'⟩
      exact ⟨(xA kvs).length - (i + 1), by omega, rfl, hil, ρ', Hf', R', t', e'⟩
     ·intro x H3 hy
      obtain ⟨Hf3, gr, hx⟩ := yld x H3 hy
      refine ⟨H₀, Hf₀, ρ2, Hf3, (xA kvs)[i], ρ3, R2.grows gr, hx, eg, fun σ4 H4 Hf4 R4 t4 => ?_⟩
      refine ⟨H₀, Hf₀, ρ3, Hf4, o1, R4, eb, ?_⟩
      have tt : yi Hf1 Hf4 := (t2.trans gr.f).trans t4
      cases o1 with
      | nx ρ5 => exact fun σ5 H5 Hf5 R5 t5 => ⟨ρ5, Hf5, R5, tt.trans t5, eo⟩
      | ct ρ5 => exact fun σ5 H5 Hf5 R5 t5 => ⟨ρ5, Hf5, R5, tt.trans t5, eo⟩
      | bk ρ5 => cases eo; exact fun σ5 H5 Hf5 R5 t5 => k1 _ _ _ R5 (tt.trans t5)
      | rt d => cases eo; exact fun v σ5 ρ5 H5 Hf5 R5 t5 h5 => k1 _ _ _ _ _ R5 (tt.trans t5) h5
   ·left
    have : (xA kvs).drop i = [] := List.drop_eq_nil_of_le (by omega)
    rw [this] at el
    cases el
    exact ⟨w2 (by omega), k1 _ _ _ R2 t2⟩
  ·cases q
end
section
variable {X : Cx} {pos : Pos} {kk : Nat}
end
section
variable {X : Cx}
variable {a b c e : Expr} {f g h : FE} {pos p2 : Pos}
end
section
variable {X : Cx} {e : Expr} {f : FE} {pos : Pos} {tg : Expr}
end
section
variable {X : Cx} {o e : Expr} {f g : FE} {kk : Nat}
end
section
variable {X : Cx}
end
def jn (out : Str) : List Str -> Str
 | [] => out
 | z :: zs => jn (out ++ z) zs
theorem QX : ∀ (zs : List Str) (out : Str), out.length <= (jn out zs).length
 | [], _ => g0r _
 | z :: zs, out => by
  have h := QX zs (out ++ z)
  rw [strLen_append] at h
  show _ <= (jn (out ++ z) zs).length
  omega
abbrev FJ := Rho -> Option (List Str)
def tJ (K : W.Frag) (fj : FJ) (out : Str) : TE := fun σ H Q => ∃ H₀ Hf₀ ρ Hf zs, Rep K H₀ Hf₀ σ ρ H Hf /\ fj ρ = some zs /\ (jn out zs).length <= sizeLine ∧
 ∀ H' Hf', Rep K H₀ Hf₀ σ ρ H' Hf' -> yi H H' -> yi Hf Hf' -> Q (.str (jn out zs)) H'
def DJ (X : Cx) (es : List Expr) (fj : FJ) : Prop :=
 ∀ (out : Str) (pins : List (Addr × Obj)) (s : Shared) (σ : St) (H : Hp) (Q : VK), Inv X pins σ H s -> tJ X.K fj out σ H Q -> wpAny (model X.prog X.w) X.A (joinParts out (evalEach es X.env)) (EP X pins σ Q) X.xe s
section
variable {X : Cx} {e : Expr} {es : List Expr} {f : FE} {fj : FJ} {pos p2 : Pos}
def J5 : FJ := fun _ => some []
def UM (z : Str) (fj : FJ) : FJ := fun ρ => (fj ρ).bind fun zs => some (z :: zs)
def ME : D -> Option Str
 | .int i => if i.natAbs.log2 < 1920 then some (toString i) else none
 | .str z => if z.length <= sizeLine then some z else none
 | _ => none
def J6 (f : FE) (fj : FJ) : FJ := fun ρ => (f ρ).bind fun d => (ME d).bind fun z => (fj ρ).bind fun zs => some (z :: zs)
theorem Js : DJ X [] J5 := by
 intro out pins s σ H Q I h
 obtain ⟨H₀, Hf₀, ρ, Hf, zs, R, q, hz, k⟩ := h
 cases q
 exact joinParts_nilE (joinParts_nil ⟨.str out, H, I.tok _, ⟨_, rfl⟩, k _ _ R zx zx⟩ hz)
theorem Ju {z : Str} {j : Nat} (h : DJ X es fj) : DJ X (.Constant (.str z) j p2 :: es) (UM z fj) := by
 intro out pins s σ H Q I hh
 obtain ⟨H₀, Hf₀, ρ, Hf, zs, R, q, hz, k⟩ := hh
 cases e : fj ρ with
 | none => unfold UM at q; rw [e] at q; cases q
 | some zs' =>
  unfold UM at q
  rw [e] at q
  cases q
  have hz' : (jn (out ++ z) zs').length <= sizeLine := hz
  refine joinParts_consE (joinParts_cons (Calls.Constant_str ?_))
  exact ⟨g1x (QX _ _) hz', h (out ++ z) pins _ σ H Q (I.tok _) ⟨H₀, Hf₀, ρ, Hf, zs', R, e, hz', k⟩⟩
theorem Jt (he : DR X e f) (h : DJ X es fj) : DJ X (.FormattedValue e (-1) none p2 :: es) (J6 f fj) := by
 intro out pins s σ H Q I hh
 obtain ⟨H₀, Hf₀, ρ, Hf, zs, R, q, hz, k⟩ := hh
 obtain ⟨d, e1, e2⟩ := zL q
 cases e3 : ME d with
 | none => rw [e3] at e2; cases e2
 | some z =>
  rw [e3] at e2
  cases e4 : fj ρ with
  | none => rw [e4] at e2; cases e2
  | some zs' =>
   rw [e4] at e2
   cases e2
   have hz' : (jn (out ++ z) zs').length <= sizeLine := hz
   refine joinParts_consE (joinParts_cons (FormattedValue_plain (thn (he pins s σ H (fun v H1 => ∃ Hf1, Rep X.K H₀ Hf₀ σ ρ H1 Hf1 /\ yi H H1 /\ yi Hf Hf1 /\ qR X.K Hf1 σ ρ d v) I ⟨H₀, Hf₀, ρ, Hf, d, R, e1, fun v H1 Hf1 R1 s1 t1 h1 => ⟨Hf1, R1, s1, t1, h1⟩⟩) fun u s1 ⟨v, H1, I1, r, Hf1, R1, s1', t1, h1⟩ => ?_)))
   have fin : ∀ (t' : Tok) (tk : Nat), (out ++ z).length <= sizeLine /\ wpAny (model X.prog X.w) X.A (joinParts (out ++ z) (evalEach es X.env)) (EP X pins σ Q) X.xe { s1 with toks := tk } := fun t' tk =>
    ⟨g1x (QX _ _) hz', h (out ++ z) pins _ σ H1 Q (I1.tok _) ⟨H₀, Hf₀, ρ, Hf1, zs', R1, e4, hz', fun H2 Hf2 R2 s2 t2 => k _ _ R2 (s1'.trans s2) (t1.trans t2)⟩⟩
   unfold ME at e3
   split at e3
   ·split at e3
    ·cases e3
     cases h1.int
     obtain ⟨t, rfl⟩ := r
     exact formatField_int_small (by assumption) (fin (s1.toks + 1) _)
    ·cases e3
   ·split at e3
    ·cases e3
     cases h1.str
     obtain ⟨t, rfl⟩ := r
     exact formatField_str fin (by assumption)
    ·cases e3
   ·cases e3
def jQ (fj : FJ) : FE := fun ρ => (fj ρ).bind fun zs => if (jn Str.empty zs).length <= sizeLine then some (.str (jn Str.empty zs)) else none
theorem Jy {v₁ v₂ : Expr} (h : DJ X (v₁ :: v₂ :: es) fj) (hs : evalEach (v₁ :: v₂ :: es) X.env = eval v₁ X.env :: eval v₂ X.env :: evalEach es X.env := by rfl) : DE X (.JoinedStr (v₁ :: v₂ :: es) pos) (jQ fj) := by
 intro pins s σ H Q I hh
 obtain ⟨H₀, Hf₀, ρ, Hf, d, R, q, k⟩ := hh
 cases e : fj ρ with
 | none => unfold jQ at q; rw [e] at q; cases q
 | some zs =>
  unfold jQ at q
  rw [e] at q
  have q : (if (jn Str.empty zs).length <= sizeLine then some (D.str (jn Str.empty zs)) else none) = some d := q
  split at q
  ·cases q
   refine JoinedStr_many ?_
   rw [<- hs]
   exact h Str.empty pins s σ H Q I ⟨H₀, Hf₀, ρ, Hf, zs, R, e, by assumption, fun H' Hf' R' s' t' => k _ _ _ R' s' t' (Has.str_iff.mpr rfl)⟩
  ·cases q
def uY (i : Nat) (g f : FE) : FS := fun ρ => (f ρ).bind fun y => (g ρ).bind fun x => match ρ[i]?, x with
 | some (.ol ds), .int k => (ixN ds.length k).bind fun j => some (.nx (ρ.set i (.ol (ds.set j y))))
 | _, _ => none
theorem jl {ix : Expr} {g : FE} {x : Str} {p1 tpos : Pos} (i : Nat) (he : DE X e f) (hg : DE X ix g) (hN : X.N[i]? = some x := by rfl) (hv : Vis X.env.scope x := by first | exact Or.inl rfl | exact Or.inr (Or.inl rfl) | exact Or.inr (Or.inr rfl))
  (hd : (x == ("__debug__" : Str)) = false := by decide) (hcd : (x == ("__classdict__" : Str)) = false := by decide)
  (ha : ∀ v, assign (.Subscript (.Name x p1) ix tpos) X.env v = (do
   let ov ← holding [v] (eval (.Name x p1) X.env)
   let iv ← holding [v, ov] (eval ix X.env)
   standAt tpos
   holding [v, ov, iv] (setItem ov iv v)
   release [v, ov, iv] []) := by intro _; rfl)
  (hs : swapsWithSole [.Subscript (.Name x p1) ix tpos] e pos.line X.env = pure false := by rfl) (hw : swappedStores [.Subscript (.Name x p1) ix tpos] e X.env = pure none := by rfl)
  (h1 : (assignEach [.Subscript (.Name x p1) ix tpos] X.env).map (·.2) = [assign (.Subscript (.Name x p1) ix tpos) X.env] := by rfl) :
  DS X (.Assign [.Subscript (.Name x p1) ix tpos] e pos) (uY i g f) :=
 xN (Ha he (DU (uj hN hv hd hcd) hg Ko ha) hs hw h1) fun D' σ H ⟨H₀, Hf₀, ρ, Hf, o, R, q, k⟩ => by
  obtain ⟨y, e1, e2⟩ := zL q
  obtain ⟨z, e3, e4⟩ := zL e2
  split at e4
  ·rename_i ds kk el
   cases hj : ixN ds.length kk with
   | none => rw [hj] at e4; cases e4
   | some j =>
    rw [hj] at e4
    cases e4
    refine ⟨H₀, Hf₀, ρ, Hf, y, R, e1, fun v H1 Hf1 R1 s1 t1 h1 => ?_⟩
    obtain ⟨a, p1, ⟨xs, p2, p3⟩, p4, p5⟩ := R1.ow i _ el rfl
    refine ⟨_, p1, H₀, Hf₀, ρ, Hf1, _, R1, e3, fun w H2 Hf2 R2 s2 t2 h2 => ?_⟩
    cases Has.int_iff.mp h2
    obtain ⟨a', r1, ⟨ys, r2, r3⟩, r4, r5⟩ := R2.ow i _ el rfl
    rw [p1] at r1; cases r1
    exact ⟨a, ys, kk, j, rfl, rfl, r2, by rw [r3.length]; exact hj, k _ _ _ (R2.updOwn el rfl p1 rfl ⟨_, zq, r3.set (h1.mono t2) j⟩) (t1.trans t2)⟩
  ·cases e4
end
@[simp] theorem MX {fj : FJ} {ρ : Rho} : jQ fj ρ = (fj ρ).bind fun zs => if (jn Str.empty zs).length <= sizeLine then some (.str (jn Str.empty zs)) else none := rfl
@[simp] theorem NO {ρ : Rho} : J5 ρ = some [] := rfl
@[simp] theorem NT {z : Str} {fj : FJ} {ρ : Rho} : UM z fj ρ = (fj ρ).bind fun zs => some (z :: zs) := rfl
@[simp] theorem NS {f : FE} {fj : FJ} {ρ : Rho} : J6 f fj ρ = (f ρ).bind fun d => (ME d).bind fun z => (fj ρ).bind fun zs => some (z :: zs) := rfl
@[simp] theorem HM {i : Nat} {g f : FE} {ρ : Rho} : uY i g f ρ = (f ρ).bind fun y => (g ρ).bind fun x => match ρ[i]?, x with
 | some (.ol ds), .int k => (ixN ds.length k).bind fun j => some (.nx (ρ.set i (.ol (ds.set j y))))
 | _, _ => none := rfl
section
variable {K : W.Frag} {C p dx l : Addr} {H Hf H' Hf' H2 Hf2 : Hp} {hd wd : D} {ms : List D}
end
section
variable (gA gT gI gS : List D -> Option D)
variable (gL : List D -> Option D)
end
section
variable {X : Cx} {pins : List (Addr × Obj)} {σ : St} {H : Hp} {s : Shared} {e : Value}
end
section
variable {X : Cx} {pins : List (Addr × Obj)} {σ : St} {H : Hp} {s : Shared}
end
end FL
namespace FL
open PySem PySem.Spec PySem.Calls PyProof.Rows L2
section
variable {prog : Program} {w : World} {A : Around} {E : Value -> Shared -> Prop} {s : Shared} {K : W.Frag} {a C : Addr}
end
end FL
namespace FL
open PySem PySem.Spec PyProof.Rows L2
inductive OutX where
 | o (x : Out)
 | ex (n : Str)
abbrev FSX := Rho -> Option OutX
section
variable {X : Cx} {E : XK} {c tg iter : Expr} {fi : FA} {ft : FT} {pos : Pos} {st : Stmt} {sts jU body : List Stmt} {F : FS} {G G1 G2 B : FSX} {γ : FG}
end
inductive RX where
 | v (d : D)
 | ex (n : Str)
section
variable {mg : Str -> Option Value} {K : W.Frag} {n : Nat} {g : List D -> Option RX} {vs : List V} {H Hf : Hp} {Q : VK} {E : XK} {ds : List D}
end
section
variable {X : Cx} {o e : Expr} {f g : FE} {kk : Nat}
end
section
variable {X : Cx} {o e : Expr} {f g : FE} {kk : Nat}
end
section
variable {prog : Program} {w : World} {A : Around} {E : Value -> Shared -> Prop} {s : Shared} {l : Addr} {xs : Array (Int × Tok)}
end
section
variable {X : Cx}
end
section
variable {X : Cx} {kk : Nat}
end
section
variable {X : Cx} {pins : List (Addr × Obj)} {σ : St} {H : Hp} {s : Shared} {A : Around}
end
section
variable {X : Cx} {e : Expr} {pos : Pos}
end
open PySem.AutoSeq1 (wpAny_loadPart')
theorem kj (l : Addr) (items : Array Value) (n : Nat) (b : Addr) (items2 : Array Value) (n2 : Nat) (sl2 : Array (Option Value)) (hc0 : ¬(!items.isEmpty && Builtin.List.listTooLong (items.size + items2.size)) = true) (hc1 : items.size <= sizeLine) (hs2 : items.size + items2.size <= sizeLine + 1) :
  Meets (Builtin.«list.extend» ⟨[.ref l, .ref b], []⟩) (fun _ R s => s.heap.get? l = some { cls := .type "list", dict := none, data := .seq items n, slots := #[] } /\ s.heap.get? b = some { cls := .type "list", dict := none, data := .seq items2 n2, slots := sl2 } /\ R (.ok (.ret Value.none)) { s with heap := s.heap.update l (Obj.mapSeq fun x => x ++ items2), toks := s.toks }) :=
 .of_wp fun prog w A R s h => by
  obtain ⟨hp, g, d, tk, os⟩ := s; obtain ⟨hl, hb, h⟩ := h
  have f2 := AutoSeq1.sub_tuple_tuple
  have f3 := AutoSeq1.sub_list_list
  have f4 := AutoSeq1.sub_tuple_list
  have f5 := AutoSeq1.sub_list_tuple
  have hz' : (items ++ items2).size <= sizeLine + 1 := by rw [Array.size_append]; exact hs2
  wp_walk using (wpAny_updateSeq hl rfl (hz := hc1) (_hz' := hz')), wpAny_loadPart' hl, wpAny_loadPart' hb
  exact ⟨_, rfl, h⟩
section
variable {X : Cx} {e : Expr} {f g : FE} {pos : Pos}
def Kz (K : W.Frag) : V -> List V -> Hp -> VK -> Prop := fun x vs H Q => ∃ l b xs zs, x = .ref l /\ vs = [.ref b] /\ H l = some (.lst xs) /\ SqL K H b zs /\ xs.length + zs.length <= sizeLine /\ Q .non (upd H l (.lst (xs ++ zs)))
theorem Uo : MtM X "list.extend" (Kz X.K) := by
 intro pins s σ H x vs v us Q I rx rv h
 obtain ⟨l, b, xs, zs, rfl, rfl, hH, hB, hz, q⟩ := h
 cases rx
 obtain ⟨u, rfl, ru⟩ := rv.one
 cases ru
 obtain ⟨z, its, n, r, hl, e⟩ := I.lstM hH
 obtain ⟨its2, r2, ⟨o2, n2, e2, c2, d2, s2⟩, z2⟩ := I.list hB
 have hl2 := r2.length
 obtain ⟨cls2, dict2, data2, sl2⟩ := o2
 dsimp only at c2 d2 s2
 subst c2 d2 s2
 have hsz : its.toArray.size + its2.toArray.size <= sizeLine := by rw [g0p, g0p]; omega
 have hlong : ¬ (!its.toArray.isEmpty && Builtin.List.listTooLong (its.toArray.size + its2.toArray.size)) = true := by
  rw [K4 hsz, Bool.and_false]
  exact g1n
 refine call_meets F.slot_list_extend ⟨_, e, rfl⟩ F.entry_list_extend (F.args_list_extend_2 _ _)
  (kj l its.toArray n b its2.toArray n2 sl2 hlong (by rw [g0p]; omega) (by omega)) ⟨e, e2, ?_⟩
 refine ⟨.non, _, I.lset (its' := its ++ its2) hH e (by simp) (r.append r2) ?_, rfl, q⟩
 rw [g0h]
 omega
def jj (i : Nat) (f : FE) : FS := fun ρ => (f ρ).bind fun d => match d, ρ[i]? with
 | .lst zs, some (.ol ds) => if ds.length + zs.length <= sizeLine then some (.nx (ρ.set i (.ol (ds ++ zs)))) else none
 | _, _ => none
@[simp] theorem YV {i : Nat} {ρ : Rho} : jj i f ρ = (f ρ).bind fun d => match d, ρ[i]? with
 | .lst zs, some (.ol ds) => if ds.length + zs.length <= sizeLine then some (.nx (ρ.set i (.ol (ds ++ zs)))) else none
 | _, _ => none := rfl
theorem Xn {x : Str} {p1 apos cpos pos : Pos} (i : Nat) (he : DE X e f) (hN : X.N[i]? = some x := by rfl) (hv : Vis X.env.scope x := by first | exact Or.inl rfl | exact Or.inr (Or.inl rfl) | exact Or.inr (Or.inr rfl))
  (hd : (x == ("__debug__" : Str)) = false := by decide) (hcd : (x == ("__classdict__" : Str)) = false := by decide)
  (hbase : attributeBase (.Name x p1) "extend" X.env (eval (.Name x p1) X.env) = eval (.Name x p1) X.env := by rfl)
  (hfew : ((backTo cpos (starEach [e] X.env)).all (fun x => !x.1) && (backToKw cpos (keywordEach [] X.env)).all (fun x => x.1.isSome)
   && decide (([e] : List Expr).length + ([] : List Keyword).length + (if ([] : List Keyword).isEmpty then 0 else 1) < 30)) = true := by rfl)
  (hline : (apos.endLine == cpos.line) = true := by rfl) (hst : starEach [e] X.env = (false, eval e X.env) :: starEach [] X.env := by rfl) (hplain : (backTo cpos (starEach [] X.env)).any (·.1) = false := by rfl)
  (hs : swapsWith (.Call (.Attribute (.Name x p1) "extend" apos) [e] [] cpos) none pos.line X.env = pure false := by rfl) :
  DS X (.Expr (.Call (.Attribute (.Name x p1) "extend" apos) [e] [] cpos) pos) (jj i f) :=
 xN (Qi (D6 PySem.F.plainAttrs_list PySem.F.slot_list_extend PySem.F.type_list_extend Uo (uj hN hv hd hcd) (wm he uT hst) hbase hfew hline hst hplain) hs) fun D' σ H zz => by
  obtain ⟨H₀, Hf₀, ρ, Hf, o, R, q, k⟩ := zz
  obtain ⟨d, e1, e2⟩ := zL q
  split at e2
  ·rename_i ds' zs ds el
   split at e2
   ·rename_i hz
    cases e2
    obtain ⟨a, p1, ⟨xs, p2, p3⟩, p4, p5⟩ := R.ow i _ el rfl
    refine ⟨_, p1, .inl ⟨rfl, xs, SqL.of p2⟩, H₀, Hf₀, ρ, Hf, _, R, e1, fun v H1 Hf1 R1 s1 t1 h1 => ?_⟩
    obtain ⟨a', r1, ⟨ys, r2, r3⟩, r4, r5⟩ := R1.ow i _ el rfl
    rw [p1] at r1; cases r1
    obtain ⟨b, ws, rfl, qb, lb⟩ := Has.lst_iff.mp h1
    refine ⟨a, b, ys, ws, rfl, rfl, r2, R1.sf.seq qb, by rw [r3.length, lb.length]; exact hz, ?_⟩
    exact k _ _ _ (R1.updOwn el rfl p1 rfl ⟨_, zq, r3.append lb⟩) t1
   ·cases e2
  ·cases e2
theorem Xv : w6 X (.type "range") (fun xs H Q => ∃ j : Int, xs = [.int j] /\ ∀ p, H p = none -> Q (.ref p) (upd H p (.rng 0 j))) := by
 intro pins s σ H xs us Q I r h
 obtain ⟨j, rfl, q⟩ := h
 obtain ⟨u, rfl, t, rfl⟩ := Zi r
 refine call_range_1 ⟨.ref s.heap.objs.size, _, I.laid (t' := s.toks + 1 + 1) (o := .rng 0 j) (fun b ob q => Heap.get?_push_of_some _ q) (g0r _) ⟨_, _, _, Heap.get?_push_size _ rfl⟩, rfl, q _ (I.hok.fresh (g0r _))⟩
theorem qk {lo : Int} : ∀ (n : Nat) (its : List Value), its.length = n -> (∀ (j : Nat) v, its[j]? = some v -> ∃ t, v = .int (lo + (j : Int)) t) -> yP ((g0u n).map fun (k : Nat) => V.int (lo + (k : Int))) its := by
 intro n
 induction n generalizing lo with
 | zero =>
  intro its hl _
  rw [g2s hl]
  exact .nil
 | succ n ih =>
  intro its hl h
  cases its with
  | nil => simp at hl
  | cons v its =>
   rw [g1m, g0f, g1d]
   obtain ⟨t, rfl⟩ := h 0 v rfl
   refine .cons ⟨t, rfl⟩ ?_
   have := ih (lo := lo + 1) its (by simpa using hl) fun j w e => by
    obtain ⟨t, rfl⟩ := h (j + 1) w (by simpa using e)
    exact ⟨t, by congr 1; omega⟩
   have e : ((fun k : Nat => V.int (lo + (k : Int))) ∘ Nat.succ) = fun k : Nat => V.int (lo + 1 + (k : Int)) := by
    funext k
    simp only [Function.comp]
    congr 1
    omega
   rw [e]
   exact this
theorem Yx (hc : X.calm = true) : w6 X (.type "list") (fun xs H Q => ∃ (p : Addr) (lo hi : Int), xs = [.ref p] /\ H p = some (.rng lo hi) /\ (-(2 ^ 62) <= lo /\ lo < 2 ^ 62 /\ -(2 ^ 62) <= hi /\ hi < 2 ^ 62) /\ (hi - lo).toNat <= 1000000 ∧
  ∀ l, H l = none -> Q (.ref l) (upd H l (.lst ((g0u (hi - lo).toNat).map fun (k : Nat) => V.int (lo + (k : Int)))))) := by
 intro pins s σ H xs us Q I r h
 obtain ⟨p, lo, hi, rfl, hp, ⟨h1, h2, h3, h4⟩, hn, q⟩ := h
 obtain ⟨u, rfl, rx⟩ := Zi r
 cases rx
 obtain ⟨t, u, v, e⟩ := I.hok p _ hp
 have hl24 : sizeLine = 16777216 := sizeLine_eq
 refine call_list_range (n := (hi - lo).toNat) (I.ok.hd hc) (show IsRange s.heap p lo hi 1 t u v from e) (small_one h1 h2 h3 h4) (by rw [rangeSize_one]; split <;> omega) (by omega) fun h' tk acc' c' kp es hi' => ?_
 obtain ⟨hs, hv⟩ := hi'
 have vv : yP ((g0u (hi - lo).toNat).map fun (k : Nat) => V.int (lo + (k : Int))) acc'.toList := qk _ _ (by simpa using hs) fun j w ew => by
  obtain ⟨t, rfl⟩ := hv j w (by simpa using ew)
  exact ⟨t, by congr 1; omega⟩
 refine ⟨.ref s.heap.objs.size, _, I.laid (t' := tk) (o := .lst _) kp (g0r _) ⟨by rw [g0k, List.length_range]; omega, acc'.toList, c', vv, by simpa using es⟩, rfl, q _ (I.hok.fresh (g0r _))⟩
theorem Vu {K : W.Frag} {H : Hp} (lo hi : Int) : zP K H (yZ lo hi) ((g0u (hi - lo).toNat).map fun (k : Nat) => V.int (lo + (k : Int))) := by
 unfold yZ
 induction (g0u (hi - lo).toNat) with
 | nil => exact .nil
 | cons k l ih => exact .cons (Has.int_iff.mpr rfl) ih
theorem kS : bootBuiltins "range" = some (.type "range") := boot_range
noncomputable def Qe (fa : FA) : FA := fun ρ => (fa ρ).bind fun l => match l with
 | [.int j] => if -(2 ^ 62) <= j /\ j <= 1000000 then some (yZ 0 j) else none
 | _ => none
theorem Jr {a : Expr} {fa : FA} {p p2 pos2 : Pos} (hc : X.calm = true) (hg : Gl X "list") (hm : X.mg "list" = none) (hg2 : Gl X "range") (hm2 : X.mg "range" = none) (ha : DAR X [a] fa)
  (he : starEach [.Call (.Name "range" p2) [a] [] pos2] X.env = (false, eval (.Call (.Name "range" p2) [a] [] pos2) X.env) :: starEach [] X.env := by rfl) (hpl : (backTo pos (starEach [] X.env)).any (·.1) = false := by rfl)
  (he2 : starEach [a] X.env = (false, eval a X.env) :: starEach [] X.env := by rfl) (hpl2 : (backTo pos2 (starEach [] X.env)).any (·.1) = false := by rfl) :
  DN X (.Call (.Name "list" p) [.Call (.Name "range" p2) [a] [] pos2] [] pos) (Qe fa) :=
 yy (vA (T := "list") (Yx hc) hg hm (by rfl) (wm (vA (T := "range") Xv hg2 hm2 kS ha (by decide) (by decide) he2 hpl2) uT he) (by decide) (by decide) he hpl) fun σ H Q zz => by
  obtain ⟨H₀, Hf₀, ρ, Hf, d, R, q, k⟩ := zz
  obtain ⟨l, e1, e2⟩ := yp q
  refine ⟨H₀, Hf₀, ρ, Hf, l, R, e1, fun vs H1 Hf1 R1 s1 t1 h1 => ?_⟩
  split at e2
  ·rename_i j
   split at e2
   ·rename_i hj
    cases e2
    obtain ⟨v, rfl, hv⟩ := kZ.one h1
    refine ⟨j, by rw [hv.int], fun p hp => ?_⟩
    refine ⟨p, 0, j, rfl, zq, ⟨by omega, by omega, by omega, by omega⟩, by omega, fun l' hl' => ?_⟩
    have s2 : yi H1 (upd H1 p (.rng 0 j)) := zy hp
    have R2 := R1.layN (o := .rng 0 j) hp
    exact k _ _ _ _ (R2.layN hl') ((s1.trans s2).trans (zy hl')) t1 (Vu 0 j) zq (R2.sf.free hl') ((s1.trans s2).free hl')
   ·cases e2
  ·cases e2
end
theorem kA {P : Program} {w : World} : ∀ {ks : List Int} {its : List Value}, yP (ks.map V.int) its -> ItemsAre (intKind P w) ks its
 | [], _, h => by cases h; exact .nil
 | k :: ks, _, h => by
  cases h with
  | cons h1 h2 =>
   obtain ⟨t, rfl⟩ := h1
   exact .cons (by show Value.isInt k (.int k t) = true; simp [Value.isInt]) (kA h2)
structure GDictT (K : W.Frag) (mg : Str -> Option Value) (x : Str) (kvs : List (List Int × D)) : Prop where
 ex : ∃ (a : Addr) (o : Obj) (es : Array DictEntry) (ep : Nat) (xs : List (List Int × Addr × Value)), mg x = some (.ref a) /\ K.lookup a = some o /\ o.ExactDict /\ o.data = .dict es ep /\ (a == sysModules) = false /\ (∀ P w, es.toList = xs.map (entryOfKey (tupleKind (intKind P w)))) ∧
  (∀ p ∈ xs, ∃ (o : Obj) (its : Array Value) (n : Nat), K.lookup p.2.1 = some o /\ o.cls = .type "tuple" /\ o.data = .seq its n /\ yP (p.1.map V.int) its.toList) /\ (xs.map (·.1)).Nodup ∧
  ∀ ns, (∃ d u v, kvs.lookup ns = some d /\ (atKey xs ns).map (·.2) = some u /\ yV v u /\ Has K (fun _ => none) d v) \/ (kvs.lookup ns = none /\ (atKey xs ns).map (·.2) = none)
def C0 (kvs : List (List Int × D)) : D -> D -> Option D
 | .tup ds, d => (v7 ds).map fun ns => (kvs.lookup ns).getD d
 | _, _ => none
section
variable {X : Cx} {e e2 : Expr} {f g : FE} {kk : Nat}
theorem Mh {x : Str} {kvs : List (List Int × D)} {p apos cpos : Pos} (hr : Room kk X.A) (hg : Gl X x) (hm : GDictT X.K X.mg x kvs) (he : DE X e f) (hf : DE X e2 g) (m : M2 X (.Name x p) "get" apos e e2 cpos := by exact ⟨rfl, rfl, rfl, rfl⟩) (hd : (x == ("__debug__" : Str)) = false := by decide) :
  DE X (.Call (.Attribute (.Name x p) "get" apos) [e, e2] [] cpos) (zc (C0 kvs) f g) := by
 obtain ⟨a, o, es, ep, xs, h1, h2, h3, h4, h5, h6, h7, h8, h9⟩ := hm.ex
 intro pins s σ H Q I h
 obtain ⟨H₀, Hf₀, ρ, Hf, d, R, q, k⟩ := h
 obtain ⟨dx, dy, e1, e2, e3⟩ := ZV q
 unfold C0 at e3
 split at e3
 ·rename_i ds
  obtain ⟨ns, en, rfl⟩ := g1w.mp e3
  refine wpAny_Call_method m.base m.few m.line PySem.F.plainAttrs_dict PySem.F.slot_dict_get PySem.F.type_dict_get (thn (Ye (v := .ref a) hg h1 rfl hd pins s σ H (fun x H1 => x = .ref a /\ H1 = H) I ⟨rfl, rfl⟩) fun u0 s1 zz => ?_)
  obtain ⟨x, H1, I1, rx, ex, eH⟩ := zz
  subst ex eH
  cases rx
  have hb := I1.kIn a o h2
  refine ⟨⟨o, hb, h3.1⟩, fun b q => by cases q; exact ⟨o, hb, h3.2.1⟩, ?_⟩
  rw [m.trees]
  refine Calls.callWith_builtin rfl (Calls.evalArgs_plain (Calls.spliced_cons (thn (he pins s1 σ H1 (fun y H2 => ∃ Hf2, Rep X.K H₀ Hf₀ σ ρ H2 Hf2 /\ yi H1 H2 /\ yi Hf Hf2 /\ Has X.K Hf2 (.tup ds) y) I1 ⟨H₀, Hf₀, ρ, Hf, _, R, e1, fun v H1 Hf1 R1 s1 t1 h1 => ⟨Hf1, R1, s1, t1, h1⟩⟩) fun iv s2 zz => ?_)))
  obtain ⟨y, H2, I2, ry, Hf2, R2, s2', t2, hy⟩ := zz
  refine Calls.spliced_cons (thn (hf pins s2 σ H2 (fun z H3 => ∃ Hf3, Rep X.K H₀ Hf₀ σ ρ H3 Hf3 /\ yi H2 H3 /\ yi Hf2 Hf3 /\ Has X.K Hf3 dy z) I2 ⟨H₀, Hf₀, ρ, Hf2, _, R2, e2, fun v H1 Hf1 R1 s1 t1 h1 => ⟨Hf1, R1, s1, t1, h1⟩⟩) fun fv s3 zz => Calls.spliced_nil ?_)
  obtain ⟨z, H3, I3, rz, Hf3, R3, s3', t3, hz⟩ := zz
  obtain ⟨b, vs, rfl, qb, lb⟩ := Has.tup_iff.mp (hy.mono t3)
  have ev := lb.intsV en
  subst ev
  cases ry
  have qb3 : SqT X.K H3 b (ns.map V.int) := by
   rcases qb with (w | ⟨o', w⟩) | w
   ·exact .inl (.inl (R3.sf _ _ w))
   ·exact .inl (.inr ⟨o', R3.sf _ _ w⟩)
   ·exact .inr w
  obtain ⟨its, rv, ⟨ob, ho, hc, n, hdt⟩, _⟩ := I3.tuple qb3
  have hb3 := I3.kIn a o h2
  have key : (tupleKind (intKind X.prog X.w)).is s3.heap ns b := ⟨ob, its.toArray, n, ho, hc, hdt, by simpa using kA rv⟩
  have dict : s3.heap.DictOfH (tupleKind (intKind X.prog X.w)) a xs := ⟨o, es, ep, hb3, h3, h4, h6 _ _, fun p hp => by
   obtain ⟨o', its', n', l1, l2, l3, l4⟩ := h7 p hp
   exact ⟨o', its', n', I3.kIn _ _ l1, l2, l3, kA l4⟩, h8⟩
  refine call_meetsIn PySem.F.slot_dict_get ⟨o, hb3, h3.1⟩ PySem.F.entry_dict_get (PySem.F.args_dict_get_3 _ _ _) (meetsH_dict_get_default (tupleKind (intKind X.prog X.w)) a b h5 fv) ⟨tupleKind_room_in1 (by have := hr.un; omega), ns, xs, key, dict, ?_⟩
  rcases h9 ns with ⟨d, u, v, l1, l2, l3, l4⟩ | ⟨l1, l2⟩
  ·rw [l2]
   rw [l1] at k
   exact ⟨v, H3, I3.tok _, l3, k _ _ _ R3 (s2'.trans s3') (t2.trans t3) (l4.mono j7)⟩
  ·rw [l2]
   rw [l1] at k
   exact ⟨z, H3, I3.tok _, rz, k _ _ _ R3 (s2'.trans s3') (t2.trans t3) hz⟩
 ·cases e3
end
section
variable {X : Cx}
def M5 (K : W.Frag) : R2 := fun x y H Q => ∃ a k xs, x = .ref a /\ y = .int k /\ SqL K H a xs /\ xs ≠ [] /\ -1000000 <= k /\ xs.length * k.toNat <= 1000000 /\ ∀ p, H p = none -> Q (.ref p) (upd H p (.lst (g0e k.toNat xs).flatten))
theorem Bt : OpR X (binaryOp .Mult) (M5 X.K) := by
 intro pins s σ H x y v u Q I rx ry h
 obtain ⟨a, k, xs, rfl, rfl, ha, hne, hk, hz, q⟩ := h
 cases rx
 obtain ⟨t, rfl⟩ := ry
 obtain ⟨its, r, p, hz'⟩ := I.list ha
 have hlen := r.length
 obtain ⟨⟨cls, dd, data, sl⟩, ho, hc, n, hd⟩ := p.isList
 simp only at hc hd
 subst hc hd
 have hne' : its.toArray.isEmpty = false := by
  cases its with
  | nil => cases r; exact absurd rfl hne
  | cons _ _ => rfl
 have l1 : 1 <= xs.length := by
  cases xs with
  | nil => exact absurd rfl hne
  | cons _ _ => simp
 have l2 : k.toNat <= xs.length * k.toNat := Nat.le_mul_of_pos_left _ l1
 have hsz : its.toArray.size * k.toNat <= 1000000 := by rw [g0p, <- hlen]; exact hz
 have hl24 : sizeLine = 16777216 := sizeLine_eq
 have hnew : List.foldl (fun x1 x2 => x1 ++ x2) #[] (g0e (if its.toArray.isEmpty = true then 0 else k.toNat) its.toArray) = (g0e k.toNat its).flatten.toArray := by
  rw [hne', if_neg g1n]
  have := kG its k.toNat []
  rw [g0s] at this
  exact this
 refine wpAny_binaryOp_repeat_ref (T := "list") (U := "int") (by decide) ⟨_, ho, rfl⟩ (fun s' => typeIs_int s' k t) noFill_list_mul F.fills_int_mul F.slot_int_rmul repeat_list F.slot_int_index.lookup
  (call_meets F.slot_int_rmul (typeIs_int s k t) F.entry_int_rmul (F.args_int_rmul_2 _ _) (lm_int_rmul_list_any k t a its.toArray n dd sl)
   ⟨ho, rfl, ⟨_, ho, rfl⟩, call_meets F.slot_list_mul ⟨_, ho, rfl⟩ F.entry_list_mul (F.args_list_mul_2 _ _) (lm_list_mul_any a its.toArray n dd sl k t (by
    unfold Builtin.List.listFitsIndex
    simp
    omega) (by omega) (by
    have hsz' : its.length * k.toNat <= 1000000 := by rw [<- hlen]; exact hz
    unfold Builtin.List.listTooLong
    simp
    omega)) ⟨ho, ?_⟩⟩)
 rw [hnew]
 refine ⟨.ref s.heap.objs.size, _, I.laid (t' := s.toks) (o := .lst (g0e k.toNat xs).flatten) (fun b ob q => Heap.get?_push_of_some _ q) (g0r _) ?_, rfl, q _ (I.hok.fresh (g0r _))⟩
 exact ⟨by rw [QN, Nat.mul_comm]; omega, _, _, r.rep k.toNat, Heap.get?_push_size _ rfl⟩
def Hi (f g : FE) : FA := fun ρ => (f ρ).bind fun x => (g ρ).bind fun y => match x, y with
 | .lst (d :: ds), .int k => if -1000000 <= k /\ (ds.length + 1) * k.toNat <= 1000000 then some (g0e k.toNat (d :: ds)).flatten else none
 | _, _ => none
@[simp] theorem Do {f g : FE} {ρ : Rho} : Hi f g ρ = (f ρ).bind fun x => (g ρ).bind fun y => match x, y with
 | .lst (d :: ds), .int k => if -1000000 <= k /\ (ds.length + 1) * k.toNat <= 1000000 then some (g0e k.toNat (d :: ds)).flatten else none
 | _, _ => none := rfl
theorem Ws {a b : Expr} {f g : FE} {pos : Pos} (ha : DR X a f) (hb : DR X b g) : DN X (.BinOp a .Mult b pos) (Hi f g) :=
 yy (DY Bt ha hb) fun σ H Q ⟨H₀, Hf₀, ρ, Hf, d, R, q, k⟩ => by
  obtain ⟨x, y, e1, e2, e3⟩ := ZV q
  refine ⟨H₀, Hf₀, ρ, Hf, x, R, e1, fun v H1 Hf1 R1 s1 t1 h1 => ⟨H₀, Hf₀, ρ, Hf1, y, R1, e2, fun v' H2 Hf2 R2 s2 t2 h2 => ?_⟩⟩
  have h3 := h1.mono t2
  split at e3
  ·rename_i e ds j
   split at e3
   ·rename_i hz
    cases e3
    obtain ⟨a, xs, rfl, qa, la⟩ := h3.lst R2
    have hl := la.length
    refine ⟨a, j, xs, rfl, h2.int, qa, fun z => ?_, hz.1, by rw [hl]; exact hz.2, fun p hp => ?_⟩
    ·rw [z] at hl; simp at hl
    ·exact k _ _ _ _ (R2.layN hp) ((s1.trans s2).trans (zy hp)) (t1.trans t2) (zP.rep la j.toNat) zq (R2.sf.free hp) ((s1.trans s2).free hp)
   ·cases e3
  ·cases e3
end
def UB (ks : List Int) : Int := reduceHash (Builtin.Tuple.tupleHashOf (ks.map hashInt))
inductive GEntT (K : W.Frag) : List (List Int × D) -> List DictEntry -> List (List Int × Addr × Value) -> Prop
 | nil : GEntT K [] [] []
 | cons {ks : List Int} {d : D} {kvs : List (List Int × D)} {h : Int} {ta : Addr} {od : Option Addr} {its : Array Value} {n : Nat} {osl : Array (Option Value)} {v : V} {u : Value} {es : List DictEntry} {xs : List (List Int × Addr × Value)}
   (hz : UB ks = h) (lk : K.lookup ta = some ⟨.type "tuple", od, .seq its n, osl⟩) (vals : yP (ks.map V.int) its.toList) (rel : yV v u) (has : Has K (fun _ => none) d v) (jU : GEntT K kvs es xs) : GEntT K ((ks, d) :: kvs) (⟨h, .ref ta, u⟩ :: es) ((ks, ta, u) :: xs)
theorem GEntT.keys {K : W.Frag} {kvs : List (List Int × D)} {es : List DictEntry} {xs : List (List Int × Addr × Value)} (g : GEntT K kvs es xs) : xs.map (·.1) = kvs.map (·.1) := by
 induction g with
 | nil => rfl
 | cons _ _ _ _ _ _ ih => simp [ih]
theorem GEntT.ents {K : W.Frag} {kvs : List (List Int × D)} {es : List DictEntry} {xs : List (List Int × Addr × Value)} (g : GEntT K kvs es xs) (P : Program) (w : World) : es = xs.map (entryOfKey (tupleKind (intKind P w))) := by
 induction g with
 | nil => rfl
 | cons hz _ _ _ _ _ ih =>
  subst hz
  rw [g0f, <- ih]
  rfl
theorem GEntT.tups {K : W.Frag} {kvs : List (List Int × D)} {es : List DictEntry} {xs : List (List Int × Addr × Value)} (g : GEntT K kvs es xs) : ∀ p ∈ xs, ∃ (o : Obj) (its : Array Value) (n : Nat), K.lookup p.2.1 = some o /\ o.cls = .type "tuple" /\ o.data = .seq its n /\ yP (p.1.map V.int) its.toList := by
 induction g with
 | nil => intro p hp; cases hp
 | cons _ lk vals _ _ _ ih =>
  intro p hp
  rcases g0n.mp hp with rfl | hp
  ·exact ⟨_, _, _, lk, rfl, rfl, vals⟩
  ·exact ih p hp
theorem GEntT.look {K : W.Frag} {kvs : List (List Int × D)} {es : List DictEntry} {xs : List (List Int × Addr × Value)} (g : GEntT K kvs es xs) (ns : List Int) :
  (∃ d u v, kvs.lookup ns = some d /\ (atKey xs ns).map (·.2) = some u /\ yV v u /\ Has K (fun _ => none) d v) \/ (kvs.lookup ns = none /\ (atKey xs ns).map (·.2) = none) := by
 induction g with
 | nil => exact .inr ⟨rfl, rfl⟩
 | @cons ks d kvs h ta od its n osl v u es xs hz lk vals rel has jU ih =>
  by_cases c : ks = ns
  ·subst c
   refine .inl ⟨d, u, v, by simp [g2j], ?_, rel, has⟩
   simp [atKey]
  ·have e1 : ((ks, d) :: kvs).lookup ns = kvs.lookup ns := by
    rw [g1v]
    have : (ns == ks) = false := by simpa using fun z => c z.symm
    rw [this]
   have e2 : atKey ((ks, ta, u) :: xs) ns = atKey xs ns := by
    unfold atKey
    rw [List.find?_cons_of_neg (by simpa using c)]
   rw [e1, e2]
   exact ih
theorem Q9 {K : W.Frag} {mg : Str -> Option Value} {x : Str} {a : Addr} {es : Array DictEntry} {ep : Nat} {kvs : List (List Int × D)} {xs : List (List Int × Addr × Value)} (h1 : mg x = some (.ref a)) (h2 : K.lookup a = some ⟨.type "dict", none, .dict es ep, #[]⟩)
  (hs : (a == sysModules) = false) (g : GEntT K kvs es.toList xs) (nd : (kvs.map (·.1)).Nodup) : GDictT K mg x kvs :=
 ⟨a, _, es, ep, xs, h1, h2, ⟨rfl, rfl, rfl⟩, rfl, hs, fun P w => g.ents P w, g.tups, by rw [g.keys]; exact nd, g.look⟩
open PySem.AutoSeq1 (wpAny_loadPart')
open PySem.MeetsSeq PySem.MeetsSeq2 PySem.MeetsSeq3
section
variable {X : Cx} {pins : List (Addr × Obj)} {σ : St} {H : Hp} {s : Shared} {A : Around}
theorem Me (l : List Int) : dep (.lst (l.map D.int)) <= 1 := by
 unfold dep
 have : uN (l.map D.int) <= 0 := qf fun d hd => by
  obtain ⟨x, _, rfl⟩ := g1r.mp hd
  exact g0r _
 omega
end
section
variable {X : Cx} {e : Expr} {pos : Pos} {kk : Nat}
end
section
variable {prog : Program} {w : World} {A : Around} {E : Value -> Shared -> Prop} {s : Shared}
theorem Gp {r S : Addr} {a b c : Int} {t u v : Tok} {n c₀ : Nat} {R : Result -> Shared -> Prop} (hh : A.handled = none) (hr : IsRange s.heap r a b c t u v) (hs : Builtin.Range.small a b c = true) (hz : Builtin.Range.rangeSize a b c = (n : Int)) (hn : n <= 2 ^ 24) (hS : s.heap.get? S = some { cls := .type "list", data := .seq #[] c₀ })
  (h : ∀ (h' : Heap) (tk : Nat) (acc' : Array Value) (c' : Nat), (∀ b o, b ≠ S -> s.heap.get? b = some o -> h'.get? b = some o) -> h'.get? S = some { cls := .type "list", data := .seq acc' c' } -> ItemsOf (fun i v => ∃ t, v = Value.int (a + (i : Int) * c) t) acc' n -> R (Except.ok (Flow.ret (.ref S))) { s with heap := h', toks := tk }) :
  codeAny (model prog w) A (.builtin "list.__iadd__" ⟨[.ref S, .ref r], []⟩) R s := by
 refine codeAny_builtin F.entry_list_iadd ?_
 rw [Around.under_plainId F.plain_list_iadd _]
 exact wpAny_extend_range hh hr hs hz hn S (.ref S) c₀ hS h
theorem Wy {r : Addr} {a b c : Int} {t u v : Tok} {n : Nat} {Q : List Value -> Shared -> Prop} (hh : A.handled = none) (hr : IsRange s.heap r a b c t u v) (hs : Builtin.Range.small a b c = true) (hz : Builtin.Range.rangeSize a b c = (n : Int)) (hn : n <= 2 ^ 24)
  (hQ : ∀ (h' : Heap) (tk : Nat) (acc : Array Value), (∀ b o, s.heap.get? b = some o -> h'.get? b = some o) -> s.heap.objs.size <= h'.objs.size -> ItemsOf (fun i v => ∃ t, v = Value.int (a + (i : Int) * c) t) acc n -> Q acc.toList { s with heap := h', toks := tk }) : wpAny (model prog w) A (collect (.ref r)) Q E s := by
 unfold collect
 refine wpAny_bind (wpAny_runValue (codeAny_builtin F.entry_proto_collect ?_))
 rw [Around.under_plainId F.plain_proto_collect _]
 show wpAny _ A.in1 (newList [] >>= fun l => again (.builtin "list.__iadd__" ⟨[l, .ref r], []⟩)) _ _ s
 refine wpAny_bind (wpAny_newObj_type ?_)
 have hr' : IsRange (s.heap.push { cls := .type "list", data := .seq ([] : List Value).toArray }) r a b c t u v := Heap.get?_push_of_some _ hr
 refine wpAny_pure ⟨plainId_quiet F.plain_list_iadd _, Gp (c₀ := 0) hh hr' hs hz hn (Heap.get?_push_size _ rfl) fun h' tk acc' c' kp hS hi => ?_⟩
 show wpAny _ A (load s.heap.objs.size >>= _) _ _ _
 refine wpAny_bind (wpAny_load hS ?_)
 show wpAny _ A (pure acc'.toList) _ _ _
 refine wpAny_pure (hQ h' tk acc' (fun b o e => kp b o (g1g (Heap.lt_size e)) (Heap.get?_push_of_some _ e)) (g3b (Heap.lt_size hS)) hi)
theorem qI {Q₁ : Value -> Shared -> Prop} {r : Addr} {a b c : Int} {t u v : Tok} {n : Nat} (hh : A.handled = none) (hr : IsRange s.heap r a b c t u v) (hs : Builtin.Range.small a b c = true) (hz : Builtin.Range.rangeSize a b c = (n : Int)) (hn : n <= 1000000)
  (h : ∀ (h' : Heap) (tk : Nat) (acc : Array Value), (∀ b o, s.heap.get? b = some o -> h'.get? b = some o) -> s.heap.objs.size <= h'.objs.size -> ItemsOf (fun i v => ∃ t, v = Value.int (a + (i : Int) * c) t) acc n -> Q₁ (.ref h'.objs.size) { s with heap := h'.push { cls := .type "tuple", data := .seq acc }, toks := tk }) :
  codeAny (model prog w) A (.call (.builtin "tuple.__new__") ⟨[.type "tuple", .ref r], []⟩) (wants Q₁ E) s := by
 refine codeAny_of_tree ?_
 show wpAny _ A.in1 (do checkBuiltinCall "tuple.__new__" ⟨[.type "tuple", .ref r], []⟩; again (.builtin "tuple.__new__" ⟨[.type "tuple", .ref r], []⟩)) _ _ s
 refine wpAny_bind (wpAny_of_eq (F.newCall_tuple_1 _) (wpAny_pure ⟨plainId_quiet F.plain_tuple_new _, codeAny_builtin F.entry_tuple_new ?_⟩))
 rw [Around.under_plainId F.plain_tuple_new _]
 have hsub := sub_tuple_self
 have hinit := init_tuple_lookup
 have hmh := madeHere_tuple
 have hTI : s.TypeIs (.ref r) "range" := ⟨_, hr, rfl⟩
 have hl24 : sizeLine = 16777216 := sizeLine_eq
 wp_walk using wpAny_typeOf hTI, Wy (show A.in1.handled = none from hh) hr hs hz (by omega)
 intro h' tk acc kp hle hi
 show wpAny _ _ (Builtin.Tuple.tupleExact acc.toList.toArray >>= fun v => ret v) _ _ _
 unfold Builtin.Tuple.tupleExact
 have e : acc.toList.toArray = acc := by simp
 rw [e]
 refine wpAny_bind (wpAny_newObj_type ?_ (by show acc.size <= sizeLine; rw [hi.1]; omega))
 refine wpAny_pure ?_
 exact h h' tk acc kp hle hi
theorem kP {Q : Value -> Shared -> Prop} {r : Addr} {a b c : Int} {t u v : Tok} {n : Nat} (hh : A.handled = none) (hr : IsRange s.heap r a b c t u v) (hs : Builtin.Range.small a b c = true) (hz : Builtin.Range.rangeSize a b c = (n : Int)) (hn : n <= 1000000)
  (hQ : ∀ (h' : Heap) (tk : Nat) (acc : Array Value), (∀ b o, s.heap.get? b = some o -> h'.get? b = some o) -> s.heap.objs.size <= h'.objs.size -> ItemsOf (fun i v => ∃ t, v = Value.int (a + (i : Int) * c) t) acc n -> Q (.ref h'.objs.size) { s with heap := h'.push { cls := .type "tuple", data := .seq acc }, toks := tk }) :
  wpAny (model prog w) A (call (.type "tuple") [.ref r]) Q E s := by
 refine callType_codes (Q₁ := fun obj s₁ => s₁.TypeIs obj "tuple" /\ Q obj s₁) F.called_tuple (F.typeCall_tuple_1 _) F.entry_object_init
  (qI (A := A.in1) (show A.in1.handled = none from hh) hr hs hz hn fun h' tk acc kp hle hi => ⟨⟨_, Heap.get?_push_size _ rfl, rfl⟩, hQ h' tk acc kp hle hi⟩) fun obj s₁ h₁ => ?_
 exact ⟨h₁.1, F.args_object_init_2 obj _, object_init_meets F.called_tuple.init.lookup F.called_tuple.made (by decide) prog w A.in1 _ s₁ ⟨h₁.1, rfl, h₁.2⟩⟩
end
section
variable {X : Cx} {e f : Expr} {pos : Pos} {kk : Nat}
theorem Zp (hc : X.calm = true) : w6 X (.type "tuple") (fun xs H Q => ∃ (p : Addr) (lo hi : Int), xs = [.ref p] /\ H p = some (.rng lo hi) /\ (-(2 ^ 62) <= lo /\ lo < 2 ^ 62 /\ -(2 ^ 62) <= hi /\ hi < 2 ^ 62) /\ (hi - lo).toNat <= 1000000 ∧
  ∀ l, H l = none -> Q (.ref l) (upd H l (.tup ((g0u (hi - lo).toNat).map fun (k : Nat) => V.int (lo + (k : Int)))))) := by
 intro pins s σ H xs us Q I r h
 obtain ⟨p, lo, hi, rfl, hp, ⟨h1, h2, h3, h4⟩, hn, q⟩ := h
 obtain ⟨u, rfl, rx⟩ := Zi r
 cases rx
 obtain ⟨t, u, v, e⟩ := I.hok p _ hp
 have hl24 : sizeLine = 16777216 := sizeLine_eq
 refine kP (n := (hi - lo).toNat) (I.ok.hd hc) (show IsRange s.heap p lo hi 1 t u v from e) (small_one h1 h2 h3 h4) (by rw [rangeSize_one]; split <;> omega) hn fun h' tk acc' kp hle hi' => ?_
 obtain ⟨hs, hv⟩ := hi'
 have vv : yP ((g0u (hi - lo).toNat).map fun (k : Nat) => V.int (lo + (k : Int))) acc'.toList := qk _ _ (by simpa using hs) fun j w ew => by
  obtain ⟨t, rfl⟩ := hv j w (by simpa using ew)
  exact ⟨t, by congr 1; omega⟩
 refine ⟨.ref h'.objs.size, _, I.laid (t' := tk) (o := .tup _) (fun b o q => Heap.get?_push_of_some _ (kp b o q)) hle ⟨by rw [g0k, List.length_range]; omega, acc'.toList, vv, ⟨_, Heap.get?_push_size _ rfl, rfl, 0, by simp⟩⟩, rfl, q _ (I.hok.fresh hle)⟩
noncomputable def Dc (fa : FA) : FE := fun ρ => (Qe fa ρ).map D.tup
theorem Cy {a : Expr} {fa : FA} {p p2 pos2 : Pos} (hc : X.calm = true) (hg : Gl X "tuple") (hm : X.mg "tuple" = none) (hg2 : Gl X "range") (hm2 : X.mg "range" = none) (ha : DAR X [a] fa)
  (he : starEach [.Call (.Name "range" p2) [a] [] pos2] X.env = (false, eval (.Call (.Name "range" p2) [a] [] pos2) X.env) :: starEach [] X.env := by rfl) (hpl : (backTo pos (starEach [] X.env)).any (·.1) = false := by rfl)
  (he2 : starEach [a] X.env = (false, eval a X.env) :: starEach [] X.env := by rfl) (hpl2 : (backTo pos2 (starEach [] X.env)).any (·.1) = false := by rfl) :
  DE X (.Call (.Name "tuple" p) [.Call (.Name "range" p2) [a] [] pos2] [] pos) (Dc fa) :=
 yy (vA (T := "tuple") (Zp hc) hg hm (by rfl) (wm (vA (T := "range") Xv hg2 hm2 kS ha (by decide) (by decide) he2 hpl2) uT he) (by decide) (by decide) he hpl) fun σ H Q zz => by
  obtain ⟨H₀, Hf₀, ρ, Hf, d, R, q, k⟩ := zz
  unfold Dc at q
  obtain ⟨ds, e0, rfl⟩ := g1w.mp q
  obtain ⟨l, e1, e2⟩ := yp e0
  refine ⟨H₀, Hf₀, ρ, Hf, l, R, e1, fun vs H1 Hf1 R1 s1 t1 h1 => ?_⟩
  split at e2
  ·rename_i j
   split at e2
   ·rename_i hj
    cases e2
    obtain ⟨v, rfl, hv⟩ := kZ.one h1
    refine ⟨j, by rw [hv.int], fun p hp => ?_⟩
    refine ⟨p, 0, j, rfl, zq, ⟨by omega, by omega, by omega, by omega⟩, by omega, fun l' hl' => ?_⟩
    have s2 : yi H1 (upd H1 p (.rng 0 j)) := zy hp
    have R2 := R1.layN (o := .rng 0 j) hp
    refine k _ _ _ (R2.lay hl') ((s1.trans s2).trans (zy hl')) (t1.trans (zy (R2.sf.free hl'))) (Has.tup_iff.mpr ⟨l', _, rfl, SqT.of zq, Vu 0 j⟩)
   ·cases e2
  ·cases e2
theorem Ft {pins : List (Addr × Obj)} {σ : St} {H : Hp} {s : Shared} {a : Addr} {ks : List Key} (I : Inv X pins σ H s) (h : SqT X.K H a (ks.map kV)) : (tupleKind (xj X.prog X.w)).is s.heap ks a := by
 obtain ⟨its, r, ⟨o, h1, h2, n, h3⟩, _⟩ := I.tuple h
 exact ⟨o, its.toArray, n, h1, h2, h3, by simpa using ku r⟩
def Dg (K : W.Frag) (td ty tx : TE) : TE := fun σ H Q => td σ H fun x H1 => ∃ a, x = .ref a /\ IsD H1 a /\ ty σ H1 fun y H2 => tx σ H2 fun z H3 => ∃ kvs k b, y = .ref b /\ H3 a = some (.dT kvs) /\ SqT K H3 b (List.map kV k) /\ Q ((JZ kvs k).getD z) H3
theorem KL {o : Expr} {apos cpos : Pos} {td ty tx : TE} (hu : X.A.units + 1 < cLine) (ho : PE X o td) (he : PE X e ty) (hf : PE X f tx) (m : M2 X o "get" apos e f cpos) : PE X (.Call (.Attribute o "get" apos) [e, f] [] cpos) (Dg X.K td ty tx) := by
 intro pins s σ H Q I h
 refine wpAny_Call_method m.base m.few m.line PySem.F.plainAttrs_dict PySem.F.slot_dict_get PySem.F.type_dict_get (thn (ho pins s σ H _ I h) fun u s1 ⟨x, H1, I1, rx, a, ex, d, q1⟩ => ?_)
 subst ex
 obtain rfl : u = Value.ref a := rx
 obtain ⟨t1, t2, _⟩ := FK I1 d
 refine ⟨t1, t2, ?_⟩
 rw [m.trees]
 refine Calls.callWith_builtin rfl (Calls.evalArgs_plain (Calls.spliced_cons (thn (he pins s1 σ H1 _ I1 q1) fun iv s2 ⟨y, H2, I2, ry, q2⟩ =>
  Calls.spliced_cons (thn (hf pins s2 σ H2 _ I2 q2) fun fv s3 ⟨z, H3, I3, rz, kvs, k, b, ey, e3, sb, q3⟩ => Calls.spliced_nil ?_))))
 subst ey
 cases (show iv = Value.ref b from ry)
 obtain ⟨z', hd, xs, rel, dd⟩ := Cj I3.hok (.inl e3)
 exact call_meetsIn PySem.F.slot_dict_get dd.typeIs PySem.F.entry_dict_get (PySem.F.args_dict_get_3 _ _ _) (meetsH_dict_get_default (tupleKind (xj X.prog X.w)) a b hd fv) ⟨tupleKind_room_in1 hu, k, xs, Ft I3 sb, dd, ⟨_, H3, I3.tok _, (rel.val k).getD rz, q3⟩⟩
def atD {κ : Type} [DecidableEq κ] (kvs : List (κ × D)) (k : κ) : Option D := (kvs.find? fun kv => decide (kv.1 = k)).map (·.2)
theorem KVs.atD {K : W.Frag} {H : Hp} {κ : Type} [DecidableEq κ] {kvs : List (κ × D)} {ws : List (κ × V)} (r : KVs K H kvs ws) (k : κ) {d : D} {v : V} (hv : Has K H d v) : Has K H ((atD kvs k).getD d) ((JZ ws k).getD v) := by
 unfold FL.atD JZ
 induction r with
 | nil => exact hv
 | @cons p q ps qs h t ih =>
  by_cases e : p.1 = k
  ·have e' : q.1 = k := h.1.symm.trans e
   simp only [g2n, e, e', decide_true]
   exact h.2
  ·have e' : ¬ q.1 = k := fun z => e (h.1.trans z)
   simp only [g2n, e, e', decide_false]
   exact ih
def Wu (i : Nat) (fk fd : FE) : FE := fun ρ => (fk ρ).bind fun k => (fd ρ).bind fun d => match ρ[i]?, k with
 | some (.oT kvs), .tup ks => (vB ks).bind fun kk => some ((atD kvs kk).getD d)
 | _, _ => none
@[simp] theorem HV {i : Nat} {fk fd : FE} {ρ : Rho} : Wu i fk fd ρ = (fk ρ).bind fun k => (fd ρ).bind fun d => match ρ[i]?, k with
 | some (.oT kvs), .tup ks => (vB ks).bind fun kk => some ((atD kvs kk).getD d)
 | _, _ => none := rfl
theorem Ww {x : Str} {p1 apos cpos : Pos} {fk fd : FE} (i : Nat) (hr : Room kk X.A) (he : DE X e fk) (hf : DE X f fd) (hN : X.N[i]? = some x := by rfl) (hvis : Vis X.env.scope x := by first | exact Or.inl rfl | exact Or.inr (Or.inl rfl) | exact Or.inr (Or.inr rfl))
  (hd : (x == ("__debug__" : Str)) = false := by decide) (hcd : (x == ("__classdict__" : Str)) = false := by decide) (m : M2 X (.Name x p1) "get" apos e f cpos := by exact ⟨rfl, rfl, rfl, rfl⟩) :
  DE X (.Call (.Attribute (.Name x p1) "get" apos) [e, f] [] cpos) (Wu i fk fd) :=
 yy (KL (by have := hr.un; omega) (uj hN hvis hd hcd) he hf m) fun σ H Q ⟨H₀, Hf₀, ρ, Hf, d, R, q, k⟩ => by
  unfold Wu at q
  obtain ⟨dk, e1, q⟩ := g1e.mp q
  obtain ⟨dd, e2, q⟩ := g1e.mp q
  generalize el : ρ[i]? = sl at q
  split at q
  ·rename_i kvs ks
   obtain ⟨kk, e3, q⟩ := g1e.mp q
   cases q
   obtain ⟨a, p1, ⟨ws, p2, _⟩, _⟩ := R.ow i _ el rfl
   refine ⟨_, p1, a, rfl, .inr ⟨_, .inl p2⟩, H₀, Hf₀, ρ, Hf, _, R, e1, fun v1 H1 Hf1 R1 s1 t1 h1 => ⟨H₀, Hf₀, ρ, Hf1, dd, R1, e2, fun v2 H2 Hf2 R2 s2 t2 h2 => ?_⟩⟩
   obtain ⟨a', r1, ⟨ws', r2, r3⟩, r4, r5⟩ := R2.ow i _ el rfl
   rw [p1] at r1; cases r1
   obtain ⟨b, xs, rfl, qb, lb⟩ := Has.tup_iff.mp (h1.mono t2)
   rw [wR e3] at lb
   have ev := qz lb
   exact ⟨ws', kk, b, rfl, r2, by rw [<- ev]; exact uZ R2.sf qb, k _ _ _ R2 (s1.trans s2) (t1.trans t2) (r3.atD kk h2)⟩
  ·cases q
def Trk (σ : St) (ρ : Rho) (H : Hp) (j : Nat) : Prop := ∃ b ks, σ[j]? = some (some (.ref b)) /\ H b = some (.tup (List.map kV ks)) /\ ρ[j]? = some (.fr (.tup (List.map Hl ks)))
def tSK (K : W.Frag) (j : Nat) (F : FS) : TS := fun D' σ H => ∃ H₀ Hf₀ ρ Hf o, Rep K H₀ Hf₀ σ ρ H Hf /\ Trk σ ρ H j /\ F ρ = some o /\ MB K H₀ Hf₀ Hf D' o
theorem Vn : ∀ {a b : List Key}, a.map Hl = b.map Hl -> a = b
 | [], [], _ => rfl
 | [], _ :: _, h => by cases h
 | _ :: _, [], h => by cases h
 | x :: a, y :: b, h => by
  rw [g0f, g0f] at h
  obtain ⟨h1, h2⟩ := List.cons.inj h
  rw [Vn h2]
  cases x <;> cases y <;> cases h1 <;> rfl
def ZQ (i j : Nat) (g : FE) : FS := fun ρ => (g ρ).bind fun v => match ρ[i]?, ρ[j]? with
 | some (.oT kvs), some (.fr (.tup ks)) => (vB ks).bind fun k => if kvs.length < sizeLine then some (.nx (ρ.set i (.oT (KA kvs k v)))) else none
 | _, _ => none
@[simp] theorem Kv {i j : Nat} {g : FE} {ρ : Rho} : ZQ i j g ρ = (g ρ).bind fun v => match ρ[i]?, ρ[j]? with
 | some (.oT kvs), some (.fr (.tup ks)) => (vB ks).bind fun k => if kvs.length < sizeLine then some (.nx (ρ.set i (.oT (KA kvs k v)))) else none
 | _, _ => none := rfl
theorem Mb {x y : Str} {p1 p2 sp : Pos} {value : Expr} {g : FE} (i j : Nat) (hr : Room kk X.A) (hv : DE X value g) (hN : X.N[i]? = some x := by rfl) (hvis : Vis X.env.scope x := by first | exact Or.inl rfl | exact Or.inr (Or.inl rfl) | exact Or.inr (Or.inr rfl))
  (hd : (x == ("__debug__" : Str)) = false := by decide) (hcd : (x == ("__classdict__" : Str)) = false := by decide) (hN2 : X.N[j]? = some y := by rfl) (hvis2 : Vis X.env.scope y := by first | exact Or.inl rfl | exact Or.inr (Or.inl rfl) | exact Or.inr (Or.inr rfl))
  (hd2 : (y == ("__debug__" : Str)) = false := by decide) (hcd2 : (y == ("__classdict__" : Str)) = false := by decide)
  (hs : swapsWith value (some (.Subscript (.Name x p1) (.Name y p2) sp)) pos.line X.env = pure false := by rfl) :
  PS X (.Assign [.Subscript (.Name x p1) (.Name y p2) sp] value pos) (tSK X.K j (ZQ i j g)) :=
 xN (Qj (by have := hr.un; omega) (uj hN hvis hd hcd) (uj hN2 hvis2 hd2 hcd2) hv hs) fun D' σ H ⟨H₀, Hf₀, ρ, Hf, o, R, ⟨b, ks, b1, b2, b3⟩, q, k⟩ => by
  unfold ZQ at q
  obtain ⟨v, e1, q⟩ := g1e.mp q
  split at q
  ·rename_i kvs ds el ej
   rw [b3] at ej
   cases ej
   obtain ⟨kk, e3, q⟩ := g1e.mp q
   have ek : ks = kk := Vn (wR e3)
   subst ek
   split at q
   ·rename_i hz
    cases q
    obtain ⟨a, p1, _⟩ := R.ow i _ el rfl
    refine ⟨H₀, Hf₀, ρ, Hf, v, R, e1, fun v1 H1 Hf1 R1 s1 t1 h1 => ⟨_, p1, _, b1, ?_⟩⟩
    obtain ⟨a', r1, ⟨ws, r2, r3⟩, r4, r5⟩ := R1.ow i _ el rfl
    rw [p1] at r1; cases r1
    have hzw : ws.length < sizeLine := by rw [<- r3.length]; exact hz
    exact ⟨a, _, rfl, C2.t r2 (s1 _ _ b2) hzw, k _ _ _ (R1.updOwn el rfl p1 rfl ⟨_, zq, r3.put ks h1⟩) t1⟩
   ·cases q
  ·cases q
theorem Nx {c : Expr} {st : Stmt} {ft : FT} {F : FS} {j : Nat} (hc : DT X c ft) (h : PS X st (tSK X.K j F)) : PS X (.If c [st] [] pos) (tSK X.K j (ifS ft F nxF)) :=
 xN (DK hc (X5 h) yo) fun D' σ H ⟨H₀, Hf₀, ρ, Hf, o, R, ⟨b, ks, b1, b2, b3⟩, q, k⟩ => by
  obtain ⟨x, e1, e2⟩ := xU q
  refine ⟨H₀, Hf₀, ρ, Hf, x, R, e1, fun H1 Hf1 R1 s1 t1 => ?_⟩
  cases x with
  | true => exact Ca ⟨H₀, Hf₀, ρ, Hf1, o, R1, ⟨b, ks, b1, s1 _ _ b2, b3⟩, e2, k.mono t1⟩
  | false => exact Cb ⟨H₀, Hf₀, ρ, Hf1, o, R1, e2, k.mono t1⟩
def JP (j : Nat) (fa : FA) : FS := fun ρ => (fa ρ).bind fun ds => (vB ds).bind fun _ => if ds.length <= sizeLine /\ j < ρ.length then some (.nx (ρ.set j (.fr (.tup ds)))) else none
@[simp] theorem HW {j : Nat} {fa : FA} {ρ : Rho} : JP j fa ρ = (fa ρ).bind fun ds => (vB ds).bind fun _ => if ds.length <= sizeLine /\ j < ρ.length then some (.nx (ρ.set j (.fr (.tup ds)))) else none := rfl
theorem Co {y : Str} {es : List Expr} {x1} {tp pos' : Pos} {fa : FA} {st : Stmt} {F : FS} (j : Nat) (hN : X.N.Nodup) (ha : DA X es fa) (h2 : PS X st (tSK X.K j F)) (hi : X.N[j]? = some y := by rfl) (hx : Loc X.env.scope y := by first | exact Or.inl rfl | exact Or.inr rfl) (hs : swapsWith (.Tuple es x1 tp) (some (.Name y pos')) pos.line X.env = pure false := by rfl)
  (hf : X.fn y = true \/ X.env.scope.names.lookup y = some .local := by first | exact .inl rfl | exact .inr rfl | assumption) : DSs X [.Assign [.Name y pos'] (.Tuple es x1 tp) pos, st] (yb (JP j fa) F) :=
 Yc (W7 (W8 hN hi hx (Qp ha) hs hf) (X5 h2)) fun D' σ H ⟨H₀, Hf₀, ρ, Hf, o, R, q, k⟩ => by
  obtain ⟨o1, e1, e2⟩ := vM q
  unfold JP at e1
  obtain ⟨ds, e3, e1⟩ := g1e.mp e1
  obtain ⟨kk, e4, e1⟩ := g1e.mp e1
  split at e1
  ·rename_i hz
   cases e1
   refine ⟨H₀, Hf₀, ρ, Hf, ds, R, e3, fun vs H2 Hf2 R2 s2 t2 h2 => ⟨by rw [h2.length]; exact hz.1, fun p hp => ?_⟩⟩
   have R3 := R2.lay (o := .tup vs) hp
   have t3 := t2.trans (zy (o := .tup vs) (R2.sf.free hp))
   have ek := wR e4
   have h2' := h2
   rw [ek] at h2'
   have ev := qz h2'
   have hh : Has X.K (upd Hf2 p (.tup vs)) (.tup ds) (.ref p) := Has.tup_iff.mpr ⟨p, vs, rfl, SqT.of zq, h2.mono (zy (R2.sf.free hp))⟩
   have hl : j < σ.length := by rw [<- R.len]; exact hz.2
   refine ⟨H₀, Hf₀, _, _, o, R3.set j hh, ⟨p, kk, by rw [g2u hl], by rw [zq, ev], by rw [g2u hz.2, ek]⟩, e2, k.mono t3⟩
  ·cases e1
theorem Br : OpR X (compareOp .IsNot) (fun x y H Q => ∃ a b, x = .bl a /\ y = .bl b /\ Q (.bl (!decide (a = b))) H) := by
 intro pins s σ H x y v u Q I rx ry h
 obtain ⟨a, b, rfl, rfl, q⟩ := h
 cases rx
 cases ry
 show wpAny _ _ (isSame (Value.bool a) (Value.bool b) >>= fun r => pure (Value.bool !r)) _ _ _
 have e : isSame (Value.bool a) (Value.bool b) = pure (Value.bool a == Value.bool b) := rfl
 rw [e]
 refine wpAny_bind (wpAny_pure (wpAny_pure (Vx I q ?_)))
 cases a <;> cases b <;> rfl
def QD : D -> D -> Option D
 | .bl a, .bl b => some (.bl (!decide (a = b)))
 | _, _ => none
@[simp] theorem HN {a b : Bool} : QD (.bl a) (.bl b) = some (.bl (!decide (a = b))) := rfl
theorem KS : OpD X (fun x y H Q => ∃ a b, x = .bl a /\ y = .bl b /\ Q (.bl (!decide (a = b))) H) QD := by
 intro σ ρ H₀ Hf₀ H Hf x y dx dy d Q R hx hy hφ k
 unfold QD at hφ
 split at hφ
 ·cases hφ
  exact ⟨_, _, hx.bl, hy.bl, k _ _ _ R zx zx (Has.bl_iff.mpr rfl)⟩
 ·cases hφ
theorem Jm {a b : Expr} {g h : FE} (ha : DR X a g) (hb : DR X b h) : DT X (.Compare a [.IsNot] [b] pos) (blF (zc QD g h)) := xH Br KS ha hb (jE _)
end
end FL
namespace M02
def wsgn (n : Int) : Int := if 0 < n then 1 else if n < 0 then -1 else 0
def N (a b : Int) : Int := a * a + a * b - b * b
def sgn (a b : Int) : Int := if 0 <= wsgn a * wsgn b then wsgn (wsgn a + wsgn b) else wsgn a * wsgn (a * a + a * b - b * b)
theorem qi {n : Int} (h : 0 < n) : wsgn n = 1 := by unfold wsgn; rw [if_pos h]
theorem qj {n : Int} (h : n < 0) : wsgn n = -1 := by unfold wsgn; rw [if_neg (by omega), if_pos h]
theorem wsgn_cases (n : Int) : (0 < n /\ wsgn n = 1) \/ (n < 0 /\ wsgn n = -1) \/ (n = 0 /\ wsgn n = 0) := by
 rcases Int.lt_trichotomy n 0 with h | h | h
 ·exact .inr (.inl ⟨h, qj h⟩)
 ·subst h; exact .inr (.inr ⟨rfl, rfl⟩)
 ·exact .inl ⟨h, qi h⟩
theorem MA (x y : Int) : N (2 * x) (2 * y) = 4 * N x y := by
 unfold N
 have e1 : 2 * x * (2 * x) = 4 * (x * x) := by rw [Int.mul_assoc, Int.mul_left_comm x 2 x, <- Int.mul_assoc]; rfl
 have e2 : 2 * x * (2 * y) = 4 * (x * y) := by rw [Int.mul_assoc, Int.mul_left_comm x 2 y, <- Int.mul_assoc]; rfl
 have e3 : 2 * y * (2 * y) = 4 * (y * y) := by rw [Int.mul_assoc, Int.mul_left_comm y 2 y, <- Int.mul_assoc]; rfl
 rw [e1, e2, e3]
 omega
theorem Y1 {a b : Int} (ha : a % 2 = 1) (hb : b % 2 = 1) : (a * b) % 2 = 1 := by rw [Int.mul_emod, ha, hb]; rfl
theorem Jf {a : Int} (b : Int) (ha : a % 2 = 0) : (a * b) % 2 = 0 := by rw [Int.mul_emod, ha]; simp
theorem FX (a : Int) {b : Int} (hb : b % 2 = 0) : (a * b) % 2 = 0 := by rw [Int.mul_emod, hb]; simp
theorem UK : ∀ (n : Nat) (a b : Int), a.natAbs + b.natAbs = n -> N a b = 0 -> a = 0 /\ b = 0 := by
 intro n
 induction n using Nat.strongRecOn with
 | ind n ih =>
  intro a b hn h
  have h' : a * a + a * b - b * b = 0 := h
  have pa : a % 2 = 0 \/ a % 2 = 1 := by omega
  have pb : b % 2 = 0 \/ b % 2 = 1 := by omega
  rcases pa with pa | pa <;> rcases pb with pb | pb
  ·by_cases h0 : a = 0 /\ b = 0
   ·exact h0
   ·obtain ⟨x, rfl⟩ : ∃ x, a = 2 * x := ⟨a / 2, by omega⟩
    obtain ⟨y, rfl⟩ : ∃ y, b = 2 * y := ⟨b / 2, by omega⟩
    have hN := MA x y
    rw [h] at hN
    have := ih (x.natAbs + y.natAbs) (by omega) x y rfl (by omega)
    omega
  ·have e1 := Jf a pa
   have e2 := Jf b pa
   have e3 := Y1 pb pb
   omega
  ·have e1 := Y1 pa pa
   have e2 := FX a pb
   have e3 := Jf b pb
   omega
  ·have e1 := Y1 pa pa
   have e2 := Y1 pa pb
   have e3 := Y1 pb pb
   omega
theorem Mz {a b : Int} (h : N a b = 0) : a = 0 /\ b = 0 := UK _ a b rfl h
def Pos (a b : Int) : Prop := (0 <= a /\ 0 <= b /\ (0 < a \/ 0 < b)) \/ (0 < a /\ b < 0 /\ 0 < N a b) \/ (a < 0 /\ 0 < b /\ N a b < 0)
theorem GW (a b : Int) : N (-a) (-b) = N a b := by unfold N; rw [Int.neg_mul_neg, Int.neg_mul_neg, Int.neg_mul_neg]
theorem sgn_pos {a b : Int} (h : Pos a b) : sgn a b = 1 := by
 unfold sgn
 rcases h with ⟨h1, h2, h3⟩ | ⟨h1, h2, h3⟩ | ⟨h1, h2, h3⟩
 ·rcases wsgn_cases a with ⟨p, e⟩ | ⟨p, e⟩ | ⟨p, e⟩ <;> rcases wsgn_cases b with ⟨p', e'⟩ | ⟨p', e'⟩ | ⟨p', e'⟩ <;> rw [e, e'] <;> first | rfl | omega
 ·rw [qi h1, qj h2]
  have : a * a + a * b - b * b > 0 := h3
  rw [if_neg (by decide), qi this]; rfl
 ·rw [qj h1, qi h2]
  have : a * a + a * b - b * b < 0 := h3
  rw [if_neg (by decide), qj this]; rfl
theorem ZX (n : Int) : wsgn (-n) = -wsgn n := by
 rcases wsgn_cases n with ⟨p, e⟩ | ⟨p, e⟩ | ⟨p, e⟩
 ·rw [e, qj (by omega)]
 ·rw [e, qi (by omega)]; rfl
 ·subst p; rfl
theorem sgn_opp (a b : Int) : sgn (-a) (-b) = -sgn a b := by
 unfold sgn
 have e : -a * -a + -a * -b - -b * -b = a * a + a * b - b * b := GW a b
 rw [e, ZX a, ZX b]
 have e2 : -wsgn a * -wsgn b = wsgn a * wsgn b := Int.neg_mul_neg _ _
 rw [e2]
 have e3 : -wsgn a + -wsgn b = -(wsgn a + wsgn b) := by omega
 rw [e3, ZX]
 split
 ·rfl
 ·exact Int.neg_mul _ _
theorem pos_cases (a b : Int) : (a = 0 /\ b = 0) \/ Pos a b \/ Pos (-a) (-b) := by
 by_cases h0 : a = 0 /\ b = 0
 ·exact .inl h0
 ·right
  have hN : N a b ≠ 0 := fun h => h0 (Mz h)
  by_cases ha : 0 <= a
  ·by_cases hb : 0 <= b
   ·exact .inl (.inl ⟨ha, hb, by omega⟩)
   ·by_cases a0 : a = 0
    ·exact .inr (.inl ⟨by omega, by omega, .inr (by omega)⟩)
    ·rcases Int.lt_or_lt_of_ne hN with hn | hn
     ·exact .inr (.inr (.inr ⟨by omega, by omega, by rw [GW]; exact hn⟩))
     ·exact .inl (.inr (.inl ⟨by omega, by omega, hn⟩))
  ·by_cases hb : 0 < b
   ·rcases Int.lt_or_lt_of_ne hN with hn | hn
    ·exact .inl (.inr (.inr ⟨by omega, hb, hn⟩))
    ·exact .inr (.inr (.inl ⟨by omega, by omega, by rw [GW]; exact hn⟩))
   ·exact .inr (.inl ⟨by omega, by omega, .inl (by omega)⟩)
theorem N_g (a b : Int) : N b (a + b) = -N a b := by
 unfold N
 have e1 : b * (a + b) = a * b + b * b := by rw [Int.mul_add, Int.mul_comm b a]
 have e2 : (a + b) * (a + b) = a * a + 2 * (a * b) + b * b := by rw [Int.add_mul, Int.mul_add, Int.mul_add, Int.mul_comm b a]; omega
 rw [e1, e2]; omega
theorem WE {a b : Int} (h1 : 0 < a) (h2 : a + b <= 0) : N a b < 0 := by
 unfold N
 have e : a * a + a * b = a * (a + b) := by rw [Int.mul_add]
 have l1 : a * (a + b) <= 0 := Int.mul_nonpos_of_nonneg_of_nonpos (by omega) h2
 have l2 : 0 < b * b := Int.mul_pos_of_neg_of_neg (by omega) (by omega)
 omega
theorem GV {a b : Int} (h1 : a < 0) (h2 : 0 <= a + b) (h3 : 0 < b) : N a b < 0 := by
 have := WE (a := -a) (b := -b) (by omega) (by omega)
 rwa [GW] at this
theorem M9 {a b : Int} : Pos a b ↔ Pos b (a + b) := by
 unfold Pos
 rw [N_g]
 constructor
 ·rintro (⟨h1, h2, h3⟩ | ⟨h1, h2, h3⟩ | ⟨h1, h2, h3⟩)
  ·exact .inl ⟨h2, by omega, by omega⟩
  ·by_cases h : a + b <= 0
   ·have := WE h1 h; omega
   ·exact .inr (.inr ⟨h2, by omega, by omega⟩)
  ·by_cases h : a + b < 0
   ·exact .inr (.inl ⟨h2, h, by omega⟩)
   ·exact .inl ⟨by omega, by omega, by omega⟩
 ·rintro (⟨h1, h2, h3⟩ | ⟨h1, h2, h3⟩ | ⟨h1, h2, h3⟩)
  ·by_cases h : 0 <= a
   ·exact .inl ⟨h, h1, by omega⟩
   ·exact .inr (.inr ⟨by omega, by omega, GV (by omega) h2 (by omega)⟩)
  ·exact .inr (.inr ⟨by omega, h1, by omega⟩)
  ·exact .inr (.inl ⟨by omega, h1, by omega⟩)
def gpow : Nat -> Int × Int -> Int × Int
 | 0, x => x
 | n + 1, x => gpow n (x.2, x.1 + x.2)
theorem pos_gpow : ∀ (n : Nat) (x : Int × Int), Pos x.1 x.2 ↔ Pos (gpow n x).1 (gpow n x).2
 | 0, x => Iff.rfl
 | n + 1, x => (M9 (a := x.1) (b := x.2)).trans (pos_gpow n (x.2, x.1 + x.2))
def Cone (x : Int × Int) : Prop := 0 <= x.1 /\ 0 <= x.2 /\ (0 < x.1 \/ 0 < x.2)
theorem cone_pos {x : Int × Int} (h : Cone x) : Pos x.1 x.2 := .inl h
theorem gpow_add (m : Nat) : ∀ (n : Nat) (x : Int × Int), gpow m (gpow n x) = gpow (n + m) x
 | 0, x => by rw [g1y]; rfl
 | n + 1, x => by rw [Nat.succ_add]; exact gpow_add m n _
theorem j4 : ∀ (k : Nat) (a b : Int), a.natAbs <= k -> 0 < a -> b < 0 -> 0 < N a b -> ∃ n, Cone (gpow n (a, b)) := by
 intro k
 induction k with
 | zero => intro a b h1 h2; omega
 | succ k ih =>
  intro a b h1 h2 h3 h4
  have hs : 0 < a + b := by
   by_cases h : a + b <= 0
   ·have := WE h2 h; omega
   ·omega
  by_cases hc : 0 <= a + 2 * b
  ·exact ⟨2, (show (0 : Int) <= a + b by omega), (show (0 : Int) <= b + (a + b) by omega), .inl hs⟩
  ·have hN : N (a + b) (b + (a + b)) = N a b := by rw [N_g, N_g]; omega
   obtain ⟨n, hn⟩ := ih (a + b) (b + (a + b)) (by omega) hs (by omega) (by omega)
   exact ⟨n + 2, hn⟩
theorem to_cone {a b : Int} (h : Pos a b) : ∃ n, Cone (gpow n (a, b)) := by
 rcases h with h | ⟨h1, h2, h3⟩ | ⟨h1, h2, h3⟩
 ·exact ⟨0, h⟩
 ·exact j4 _ a b (g0r _) h1 h2 h3
 ·by_cases h : 0 <= a + b
  ·exact ⟨1, (show (0 : Int) <= b by omega), h, .inl h2⟩
  ·obtain ⟨n, hn⟩ := j4 _ b (a + b) (g0r _) h2 (by omega) (by rw [N_g]; omega)
   exact ⟨n + 1, hn⟩
def ZH (x y : Int × Int) : Int × Int := (x.1 * y.1 + x.2 * y.2, x.1 * y.2 + x.2 * y.1 + x.2 * y.2)
theorem Fo (x y : Int × Int) : ZH (x.2, x.1 + x.2) y = ((ZH x y).2, (ZH x y).1 + (ZH x y).2) := by
 unfold ZH
 simp only [Int.add_mul, Prod.mk.injEq]
 omega
theorem Y5 (x y : Int × Int) : ZH x y = ZH y x := by
 unfold ZH
 have e1 := Int.mul_comm x.1 y.1
 have e2 := Int.mul_comm x.2 y.2
 have e3 := Int.mul_comm x.1 y.2
 have e4 := Int.mul_comm x.2 y.1
 simp only [Prod.mk.injEq]
 omega
theorem kg : ∀ (n : Nat) (x y : Int × Int), ZH (gpow n x) y = gpow n (ZH x y)
 | 0, _, _ => rfl
 | n + 1, x, y => by
  show ZH (gpow n (x.2, x.1 + x.2)) y = gpow n ((ZH x y).2, (ZH x y).1 + (ZH x y).2)
  rw [kg n, Fo]
theorem GN {x y : Int × Int} (hx : Cone x) (hy : Cone y) : Cone (ZH x y) := by
 obtain ⟨x1, x2, x3⟩ := hx
 obtain ⟨y1, y2, y3⟩ := hy
 have m1 := Int.mul_nonneg x1 y1
 have m2 := Int.mul_nonneg x2 y2
 have m3 := Int.mul_nonneg x1 y2
 have m4 := Int.mul_nonneg x2 y1
 refine ⟨show (0 : Int) <= x.1 * y.1 + x.2 * y.2 by omega, show (0 : Int) <= x.1 * y.2 + x.2 * y.1 + x.2 * y.2 by omega, ?_⟩
 show 0 < x.1 * y.1 + x.2 * y.2 \/ 0 < x.1 * y.2 + x.2 * y.1 + x.2 * y.2
 rcases x3 with x3 | x3 <;> rcases y3 with y3 | y3
 ·have := Int.mul_pos x3 y3; omega
 ·have := Int.mul_pos x3 y3; omega
 ·have := Int.mul_pos x3 y3; omega
 ·have := Int.mul_pos x3 y3; omega
theorem pos_mul {x y : Int × Int} (hx : Pos x.1 x.2) (hy : Pos y.1 y.2) : Pos (ZH x y).1 (ZH x y).2 := by
 obtain ⟨n, hn⟩ := to_cone hx
 obtain ⟨m, hm⟩ := to_cone hy
 have h := cone_pos (GN hn hm)
 have e : ZH (gpow n (x.1, x.2)) (gpow m (y.1, y.2)) = gpow (m + n) (ZH x y) := by
  rw [kg, Y5, kg, Y5, gpow_add]
 rw [e] at h
 exact (pos_gpow (m + n) (ZH x y)).mpr h
end M02
namespace GH
open FL L2
abbrev Gd := Int × Int
def yz (x y : Gd) : Gd := (x.1 + y.1, x.2 + y.2)
def yD (x : Gd) : Gd := (-x.1, -x.2)
def yE (x y : Gd) : Gd := (x.1 * y.1 + x.2 * y.2, x.1 * y.2 + x.2 * y.1 + x.2 * y.2)
def gD (x : Gd) : D := .tup [.int x.1, .int x.2]
def wz (r : List Gd) : D := .tup (r.map gD)
abbrev T3 := Int × Int × Int
def tD (t : T3) : D := .tup [.int t.1, .int t.2.1, .int t.2.2]
def zh (n : Nat) (ts : List T3) : D := .tup [.int n, .lst (ts.map tD)]
def mlo (i j : Int) : Int := if j < i then j else i
def mhi (i j : Int) : Int := if j > i then j else i
theorem K7 (i j : Int) : mlo i j = mlo j i := by unfold mlo; split <;> split <;> omega
theorem Gb (i j : Int) : mhi i j = mhi j i := by unfold mhi; split <;> split <;> omega
def zi : List T3 -> Int -> Int -> Int
 | [], _, _ => 2
 | t :: ts, i, j => if t.1 = mlo i j /\ t.2.1 = mhi i j then t.2.2 else zi ts i j
theorem vg (ts : List T3) (i j : Int) : zi ts i j = zi ts j i := by
 induction ts with
 | nil => rfl
 | cons t ts ih => unfold zi; rw [K7, Gb, ih]
def xX (ts : List T3) : Prop := ∀ t ∈ ts, t.2.2 = 0 \/ (3 <= t.2.2 /\ t.2.2 <= 6)
theorem yT {ts : List T3} (h : xX ts) (i j : Int) : zi ts i j = 0 \/ (2 <= zi ts i j /\ zi ts i j <= 6) := by
 induction ts with
 | nil => simp [zi]
 | cons t ts ih =>
  unfold zi
  split
  ·have := h t g0l; omega
  ·exact ih fun t ht => h t (g0o _ ht)
def zH (m : Int) (less : Bool) : Gd :=
 if m = 0 then (-2, 0) else if m = 2 then (0, 0) else if m = 3 then (-1, 0) else if m = 4 then (if less then (-2, 0) else (-1, 0)) else if m = 5 then (0, -1) else (if less then (-3, 0) else (-1, 0))
def jL (ts : List T3) (i j : Int) : Gd := if i = j then (2, 0) else zH (zi ts i j) (decide (i < j))
theorem X4 (m : Int) (b : Bool) : -3 <= (zH m b).1 /\ (zH m b).1 <= 2 /\ -1 <= (zH m b).2 /\ (zH m b).2 <= 0 := by
 unfold zH
 repeat' split
 all_goals decide
theorem u4 (ts : List T3) (i j : Int) : -3 <= (jL ts i j).1 /\ (jL ts i j).1 <= 2 /\ -1 <= (jL ts i j).2 /\ (jL ts i j).2 <= 0 := by
 unfold jL
 split
 ·decide
 ·exact X4 _ _
def yX (A : Nat -> Gd) : Nat -> List Gd -> Gd -> Gd
 | _, [], acc => acc
 | k, x :: r, acc => yX A (k + 1) r (yz acc (yE (A k) x))
def w8 (A : Nat -> Gd) (i : Nat) (r : List Gd) : List Gd := r.set i (yz (r.getD i (0, 0)) (yD (yX A 0 r (0, 0))))
theorem zV (A : Nat -> Gd) (i : Nat) (r : List Gd) : (w8 A i r).length = r.length := by simp [w8]
def yf (A : Nat -> Nat -> Gd) (w : List Nat) (r : List Gd) : List Gd := w.foldr (fun i r => w8 (A i) i r) r
theorem zK (A : Nat -> Nat -> Gd) (w : List Nat) (r : List Gd) : (yf A w r).length = r.length := by
 induction w with
 | nil => rfl
 | cons i w ih => show (w8 (A i) i (yf A w r)).length = _; rw [zV, ih]
theorem y7 (A : Nat -> Nat -> Gd) (u v : List Nat) (r : List Gd) : yf A (u ++ v) r = yf A u (yf A v r) := by simp [yf]
def ye (n i : Nat) : List Gd := (g0u n).map fun j => if j = i then (1, 0) else (0, 0)
theorem zg (n i : Nat) : (ye n i).length = n := by simp [ye]
def zf (ts : List T3) : Nat -> Nat -> Gd := fun i j => jL ts (i : Int) (j : Int)
theorem Ja (x y : Gd) : yz x y = yz y x := by simp [yz, Int.add_comm]
theorem vD (x y z : Gd) : yz (yz x y) z = yz x (yz y z) := by simp [yz, Int.add_assoc]
theorem xJ (x : Gd) : yz x (0, 0) = x := by simp [yz]
theorem xB (x : Gd) : yz (0, 0) x = x := by simp [yz]
theorem Xh (x : Gd) : yD (yD x) = x := by simp [yD]
theorem Q8 (x y : Gd) : yD (yz x y) = yz (yD x) (yD y) := by simp [yz, yD]; omega
theorem Gw (x y z : Gd) : yE x (yz y z) = yz (yE x y) (yE x z) := by simp only [yE, yz, Int.mul_add, Prod.mk.injEq]; omega
theorem Gv (y : Gd) : yE (2, 0) y = yz y y := by simp only [yE, yz, Int.zero_mul, Prod.mk.injEq]; omega
theorem xm (A : Nat -> Gd) : ∀ (r : List Gd) (k : Nat) (acc : Gd), yX A k r acc = yz acc (yX A k r (0, 0))
 | [], k, acc => by simp [yX, xJ]
 | x :: r, k, acc => by
  unfold yX
  rw [xm A r (k + 1) (yz acc _), xm A r (k + 1) (yz (0, 0) _), xB, vD]
theorem Z1 (A : Nat -> Gd) : ∀ (r : List Gd) (k i : Nat) (y : Gd), i < r.length -> yX A k (r.set i (yz (r.getD i (0, 0)) y)) (0, 0) = yz (yX A k r (0, 0)) (yE (A (k + i)) y)
 | [], _, _, _, h => by simp at h
 | x :: r, k, 0, y, h => by
  simp only [g0g, List.getD_cons_zero, yX, xB, Nat.add_zero]
  rw [xm A r (k + 1) (yE (A k) x), xm A r (k + 1) (yE (A k) (yz x y)), Gw, vD, Ja (yE (A k) y), <- vD]
 | x :: r, k, i + 1, y, h => by
  simp only [g0i, List.getD_cons_succ, yX, xB]
  rw [xm A r (k + 1) (yE (A k) x), xm A _ (k + 1) (yE (A k) x), Z1 A r (k + 1) i y (by simpa using h), vD]
  congr 4
  omega
theorem Y8 {A : Nat -> Gd} {i : Nat} (h : A i = (2, 0)) (r : List Gd) (hi : i < r.length) : w8 A i (w8 A i r) = r := by
 unfold w8
 have hs := Z1 A r 0 i (yD (yX A 0 r (0, 0))) hi
 rw [hs, g1y, h, Gv, List.set_set]
 have hg : (r.set i (yz (r.getD i (0, 0)) (yD (yX A 0 r (0, 0))))).getD i (0, 0) = yz (r.getD i (0, 0)) (yD (yX A 0 r (0, 0))) := by simp [g0j, hi]
 rw [hg]
 generalize yX A 0 r (0, 0) = S
 have e : yz (yz (r.getD i (0, 0)) (yD S)) (yD (yz S (yz (yD S) (yD S)))) = r.getD i (0, 0) := by
  simp only [yz, yD]
  refine Prod.ext ?_ ?_ <;> simp only [] <;> omega
 rw [e]
 apply List.ext_getElem?
 intro k
 rw [g0x]
 by_cases hk : i = k
 ·subst hk
  simp [hi, g0j]
 ·rw [if_neg hk]
theorem km {A : Nat -> Nat -> Gd} (h : ∀ i, A i i = (2, 0)) : ∀ (w : List Nat) (r : List Gd), (∀ i ∈ w, i < r.length) -> yf A w.reverse (yf A w r) = r
 | [], r, _ => rfl
 | i :: w, r, hw => by
  rw [g2o, y7]
  show yf A w.reverse (w8 (A i) i (w8 (A i) i (yf A w r))) = r
  rw [Y8 (h i) _ (by rw [zK]; exact hw i g0l)]
  exact km h w r fun j hj => hw j (g0o _ hj)
theorem zO (ts : List T3) (i : Nat) : zf ts i i = (2, 0) := by simp [zf, jL]
def YQ (x : Gd) : Int := M02.sgn x.1 x.2
def Bnd (B : Nat) (r : List Gd) : Prop := ∀ x ∈ r, x.1.natAbs <= B /\ x.2.natAbs <= B
theorem Vh {p x : Int} {c B : Nat} (hp : p.natAbs <= c) (hx : x.natAbs <= B) : (p * x).natAbs <= c * B := by
 rw [Int.natAbs_mul]
 exact Nat.mul_le_mul hp hx
theorem Cc {p x : Gd} {B : Nat} (hp : -3 <= p.1 /\ p.1 <= 2 /\ -1 <= p.2 /\ p.2 <= 0) (hx : x.1.natAbs <= B /\ x.2.natAbs <= B) : (yE p x).1.natAbs <= 5 * B /\ (yE p x).2.natAbs <= 5 * B := by
 have p1 : p.1.natAbs <= 3 := by omega
 have p2 : p.2.natAbs <= 1 := by omega
 have a := Vh p1 hx.1
 have b := Vh p2 hx.2
 have c := Vh p1 hx.2
 have d := Vh p2 hx.1
 constructor
 ·show (p.1 * x.1 + p.2 * x.2).natAbs <= 5 * B
  omega
 ·show (p.1 * x.2 + p.2 * x.1 + p.2 * x.2).natAbs <= 5 * B
  omega
theorem U0 {A : Nat -> Gd} (hA : ∀ k, -3 <= (A k).1 /\ (A k).1 <= 2 /\ -1 <= (A k).2 /\ (A k).2 <= 0) {B : Nat} : ∀ (r : List Gd) (k : Nat), Bnd B r -> (yX A k r (0, 0)).1.natAbs <= 5 * B * r.length /\ (yX A k r (0, 0)).2.natAbs <= 5 * B * r.length
 | [], k, _ => by simp [yX]
 | x :: r, k, h => by
  unfold yX
  rw [xm, xB]
  have a := Cc (hA k) (h x g0l)
  have b := U0 hA r (k + 1) fun y hy => h y (g0o _ hy)
  have e : 5 * B * (x :: r).length = 5 * B * r.length + 5 * B := by rw [g0d, Nat.mul_succ]
  rw [e]
  constructor
  ·show ((yE (A k) x).1 + (yX A (k + 1) r (0, 0)).1).natAbs <= _
   omega
  ·show ((yE (A k) x).2 + (yX A (k + 1) r (0, 0)).2).natAbs <= _
   omega
theorem Cd {B : Nat} {r : List Gd} (h : Bnd B r) (i : Nat) : (r.getD i (0, 0)).1.natAbs <= B /\ (r.getD i (0, 0)).2.natAbs <= B := by
 rw [g0j]
 cases e : r[i]? with
 | none => simp
 | some x => exact h x (g2m e)
theorem BP {A : Nat -> Gd} (hA : ∀ k, -3 <= (A k).1 /\ (A k).1 <= 2 /\ -1 <= (A k).2 /\ (A k).2 <= 0) {B : Nat} {r : List Gd} (i : Nat) (h : Bnd B r) (hl : r.length <= 6) : Bnd (B * 32) (w8 A i r) := fun x hx => by
 unfold w8 at hx
 rcases List.mem_or_eq_of_mem_set hx with hx | rfl
 ·have := h x hx; omega
 ·have a := U0 hA r 0 h
  have b := Cd h i
  have c : 5 * B * r.length <= 5 * B * 6 := Nat.mul_le_mul_left _ hl
  constructor
  ·show ((r.getD i (0, 0)).1 + -(yX A 0 r (0, 0)).1).natAbs <= _
   omega
  ·show ((r.getD i (0, 0)).2 + -(yX A 0 r (0, 0)).2).natAbs <= _
   omega
theorem QQ {ts : List T3} {B : Nat} {r : List Gd} (h : Bnd B r) (hl : r.length <= 6) : ∀ w : List Nat, Bnd (B * 32 ^ w.length) (yf (zf ts) w r)
 | [] => by simpa [yf] using h
 | i :: w => by
  have ih := QQ (ts := ts) h hl w
  have := BP (A := zf ts i) (fun k => u4 ts i k) i ih (by rw [zK]; exact hl)
  show Bnd _ (w8 (zf ts i) i (yf (zf ts) w r))
  rw [g0d, Nat.pow_succ, <- Nat.mul_assoc]
  exact this
theorem HI (n i : Nat) : Bnd 1 (ye n i) := fun x hx => by
 unfold ye at hx
 obtain ⟨j, _, rfl⟩ := g1r.mp hx
 split <;> decide
end GH
namespace GH
def jR (i : Nat) (p : Gd) (r : List Gd) : List Gd := r.set i (yz (r.getD i (0, 0)) p)
theorem xc (i : Nat) (p : Gd) (r : List Gd) : (jR i p r).length = r.length := by simp [jR]
theorem qL {i : Nat} (p q : Gd) {r : List Gd} (h : i < r.length) : jR i p (jR i q r) = jR i (yz q p) r := by
 unfold jR
 have : (r.set i (yz (r.getD i (0, 0)) q)).getD i (0, 0) = yz (r.getD i (0, 0)) q := by simp [g0j, h]
 rw [this, List.set_set, vD]
theorem Xz {i j : Nat} (hij : i ≠ j) (p q : Gd) (r : List Gd) : jR i p (jR j q r) = jR j q (jR i p r) := by
 unfold jR
 have e1 : (r.set j (yz (r.getD j (0, 0)) q)).getD i (0, 0) = r.getD i (0, 0) := by simp [g0j, g0x, Ne.symm hij]
 have e2 : (r.set i (yz (r.getD i (0, 0)) p)).getD j (0, 0) = r.getD j (0, 0) := by simp [g0j, g0x, hij]
 rw [e1, e2, List.set_comm _ _ hij]
theorem va (A : Nat -> Gd) {i : Nat} (p : Gd) {r : List Gd} (h : i < r.length) : yX A 0 (jR i p r) (0, 0) = yz (yX A 0 r (0, 0)) (yE (A i) p) := by
 have := Z1 A r 0 i p h
 rw [g1y] at this
 exact this
theorem qx (A : Nat -> Gd) (i : Nat) (r : List Gd) : w8 A i r = jR i (yD (yX A 0 r (0, 0))) r := rfl
theorem qK {i : Nat} {r : List Gd} (h : i < r.length) : jR i (0, 0) r = r := by
 unfold jR
 rw [xJ]
 apply List.ext_getElem?
 intro k
 rw [g0x]
 split
 ·next e => subst e; simp [h, g0j]
 ·rfl
abbrev Fm := Gd × Gd
def ev (f : Fm) (x y : Gd) : Gd := yz (yE f.1 x) (yE f.2 y)
def Gy (f g : Fm) : Fm := (yz f.1 g.1, yz f.2 g.2)
def XJ (f : Fm) : Fm := (yD f.1, yD f.2)
def fsc (c : Gd) (f : Fm) : Fm := (yE c f.1, yE c f.2)
theorem jI (f g : Fm) (x y : Gd) : ev (Gy f g) x y = yz (ev f x y) (ev g x y) := by simp only [ev, Gy, yz, yE, Prod.mk.injEq]; constructor <;> grind
theorem ua (f : Fm) (x y : Gd) : ev (XJ f) x y = yD (ev f x y) := by simp only [ev, XJ, yz, yD, yE, Prod.mk.injEq]; constructor <;> grind
theorem Gz (c : Gd) (f : Fm) (x y : Gd) : ev (fsc c f) x y = yE c (ev f x y) := by simp only [ev, fsc, yz, yE, Prod.mk.injEq]; constructor <;> grind
theorem Jg (x y : Gd) : ev ((0, 0), (0, 0)) x y = (0, 0) := by simp [ev, yz, yE]
structure Tn where
 p : Fm
 q : Fm
 x : Fm
 y : Fm
 deriving DecidableEq
def tn0 : Tn := ⟨((0, 0), (0, 0)), ((0, 0), (0, 0)), ((1, 0), (0, 0)), ((0, 0), (1, 0))⟩
def tnJ (a : Gd) (s : Tn) : Tn := ⟨s.p, Gy s.q (XJ s.y), Gy s.x (fsc a (XJ s.y)), XJ s.y⟩
def tnI (b : Gd) (s : Tn) : Tn := ⟨Gy s.p (XJ s.x), s.q, XJ s.x, Gy s.y (fsc b (XJ s.x))⟩
def tn (a b : Gd) : Nat -> Tn
 | 0 => tn0
 | k + 1 => tnI b (tnJ a (tn a b k))
def KN (i j : Nat) : Nat -> List Nat
 | 0 => []
 | k + 1 => i :: j :: KN i j k
theorem ZY (z : Gd) : yz z (yE (2, 0) (yD z)) = yD z := by simp only [yz, yE, yD, Prod.mk.injEq]; constructor <;> grind
theorem Fp (A : Nat -> Nat -> Gd) {i j : Nat} (hij : i ≠ j) (hi2 : A i i = (2, 0)) (hj2 : A j j = (2, 0)) {r : List Gd} (hi : i < r.length) (hj : j < r.length) :
  ∀ k : Nat, ∃ R, yf A (KN i j k) r = R /\ R = jR i (ev (tn (A i j) (A j i) k).p (yX (A i) 0 r (0, 0)) (yX (A j) 0 r (0, 0))) (jR j (ev (tn (A i j) (A j i) k).q (yX (A i) 0 r (0, 0)) (yX (A j) 0 r (0, 0))) r) ∧
   yX (A i) 0 R (0, 0) = ev (tn (A i j) (A j i) k).x (yX (A i) 0 r (0, 0)) (yX (A j) 0 r (0, 0)) /\ yX (A j) 0 R (0, 0) = ev (tn (A i j) (A j i) k).y (yX (A i) 0 r (0, 0)) (yX (A j) 0 r (0, 0)) := by
 generalize hx : yX (A i) 0 r (0, 0) = x
 generalize hy : yX (A j) 0 r (0, 0) = y
 intro k
 induction k with
 | zero =>
  refine ⟨r, rfl, ?_, ?_, ?_⟩
  ·simp only [tn, tn0, Jg]
   rw [qK hj, qK hi]
  ·rw [hx]; simp [tn, tn0, ev, yz, yE]
  ·rw [hy]; simp [tn, tn0, ev, yz, yE]
 | succ k ih =>
  obtain ⟨R, h1, h2, h3, h4⟩ := ih
  have htn : tn (A i j) (A j i) (k + 1) = tnI (A j i) (tnJ (A i j) (tn (A i j) (A j i) k)) := rfl
  rw [htn]
  generalize tn (A i j) (A j i) k = s at h2 h3 h4
  have hRl : R.length = r.length := by rw [h2, xc, xc]
  have e1 : w8 (A j) j R = jR j (ev (XJ s.y) x y) R := by rw [qx, h4, ua]
  have sx1 : yX (A i) 0 (w8 (A j) j R) (0, 0) = ev (Gy s.x (fsc (A i j) (XJ s.y))) x y := by
   rw [e1, va (A i) _ (by omega), h3, jI, Gz]
  have sy1 : yX (A j) 0 (w8 (A j) j R) (0, 0) = ev (XJ s.y) x y := by
   rw [e1, va (A j) _ (by omega), h4, hj2, ua, ZY]
  have b1 : w8 (A j) j R = jR i (ev s.p x y) (jR j (ev (Gy s.q (XJ s.y)) x y) r) := by
   rw [e1, h2, <- Xz hij, qL _ _ hj, jI]
  generalize w8 (A j) j R = R1 at sx1 sy1 b1 e1
  have hRl1 : R1.length = r.length := by rw [b1, xc, xc]
  have hk : yf A (KN i j (k + 1)) r = w8 (A i) i (w8 (A j) j (yf A (KN i j k) r)) := rfl
  have e2 : w8 (A i) i R1 = jR i (ev (XJ (Gy s.x (fsc (A i j) (XJ s.y)))) x y) R1 := by rw [qx, sx1, ua]
  refine ⟨w8 (A i) i R1, ?_, ?_, ?_, ?_⟩
  ·rw [hk, h1, qx (A j), h4, <- ua, <- e1]
  ·rw [e2, b1, qL _ _ (by rw [xc]; exact hi), <- jI]
   rfl
  ·rw [e2, va (A i) _ (by omega), sx1, hi2, ua, ZY, <- ua]
   rfl
  ·rw [e2, va (A j) _ (by omega), sy1, <- Gz, <- jI]
   rfl
theorem jS (A : Nat -> Gd) (n i : Nat) (hi : i < n) : yX A 0 (ye n i) (0, 0) = A i := by
 have gen : ∀ (m k : Nat) (acc : Gd), yX A k ((g0u m).map fun t => if k + t = i then ((1, 0) : Gd) else (0, 0)) acc = if k <= i /\ i < k + m then yz acc (A i) else acc := by
  intro m
  induction m with
  | zero => intro k acc; simp [yX]; intro h h2; omega
  | succ m ih =>
   intro k acc
   rw [g1m, g0f, g1d]
   have e : ((fun t => if k + t = i then ((1, 0) : Gd) else (0, 0)) ∘ Nat.succ) = fun t => if (k + 1) + t = i then ((1, 0) : Gd) else (0, 0) := by
    funext t
    simp only [Function.comp]
    have : k + t.succ = k + 1 + t := by omega
    rw [this]
   rw [e]
   unfold yX
   rw [ih]
   by_cases h : k = i
   ·subst h
    have z : yE (A k) (1, 0) = A k := by simp [yE]
    simp [z]
    omega
   ·have z : yE (A k) (0, 0) = (0, 0) := by simp [yE]
    simp only [Nat.add_zero, h, if_false, z, xJ]
    by_cases h2 : k + 1 <= i /\ i < k + 1 + m
    ·rw [if_pos h2, if_pos (by omega)]
    ·rw [if_neg h2, if_neg (by omega)]
 have := gen n 0 (0, 0)
 simp only [g1y] at this
 unfold ye
 rw [this, if_pos ⟨g2e _, hi⟩, xB]
def FN (a b : Gd) (m : Nat) : Bool := decide ((tn a b m).p = ((0, 0), (0, 0))) && decide ((tn a b m).q = ((0, 0), (0, 0)))
theorem Da (b : Bool) {m : Int} (h : 2 <= m /\ m <= 6) : FN (zH m b) (zH m (!b)) m.toNat = true := by
 rcases (by omega : m = 2 \/ m = 3 \/ m = 4 \/ m = 5 \/ m = 6) with e | e | e | e | e <;> subst e <;> cases b <;> decide +kernel
theorem Vw : ∀ (n : Nat) (x y : Int × Int), M02.gpow n (x.1 + y.1, x.2 + y.2) = ((M02.gpow n x).1 + (M02.gpow n y).1, (M02.gpow n x).2 + (M02.gpow n y).2)
 | 0, x, y => rfl
 | n + 1, x, y => by
  have := Vw n (x.2, x.1 + x.2) (y.2, y.1 + y.2)
  simp only at this
  unfold M02.gpow
  rw [<- this]
  congr 2
  simp only []
  omega
theorem kM : ∀ (n : Nat) (x : Int × Int), M02.Cone x -> M02.Cone (M02.gpow n x)
 | 0, x, h => h
 | n + 1, x, h => kM n _ ⟨h.2.1, by have := h.1; have := h.2.1; simp only []; omega, by have := h.1; have := h.2.1; have := h.2.2; simp only []; omega⟩
theorem Bf {x y : Gd} (hx : M02.Pos x.1 x.2) (hy : M02.Pos y.1 y.2) : M02.Pos (yz x y).1 (yz x y).2 := by
 obtain ⟨n, hn⟩ := M02.to_cone hx
 obtain ⟨m, hm⟩ := M02.to_cone hy
 have h1 : M02.Cone (M02.gpow m (M02.gpow n x)) := kM m _ hn
 have h2 : M02.Cone (M02.gpow n (M02.gpow m y)) := kM n _ hm
 rw [M02.gpow_add] at h1 h2
 rw [Nat.add_comm m n] at h2
 rw [M02.pos_gpow (n + m) (yz x y)]
 apply M02.cone_pos
 have e := Vw (n + m) x y
 unfold yz
 rw [e]
 obtain ⟨a1, a2, a3⟩ := h1
 obtain ⟨b1, b2, b3⟩ := h2
 exact ⟨by simp only []; omega, by simp only []; omega, by simp only []; omega⟩
def nn (x : Gd) : Prop := x = (0, 0) \/ M02.Pos x.1 x.2
theorem QG {x y : Gd} (hx : nn x) (hy : nn y) : nn (yz x y) := by
 rcases hx with rfl | hx
 ·rw [xB]; exact hy
 ·rcases hy with rfl | hy
  ·rw [xJ]; exact .inr hx
  ·exact .inr (Bf hx hy)
theorem QF {x y : Gd} (hx : nn x) (hy : nn y) : nn (yE x y) := by
 rcases hx with rfl | hx
 ·left; simp [yE]
 ·rcases hy with rfl | hy
  ·left; simp [yE]
  ·exact .inr (M02.pos_mul hx hy)
theorem X6 {x : Gd} (h : M02.Pos x.1 x.2) : ¬ M02.Pos (yD x).1 (yD x).2 := by
 intro h'
 have e1 := M02.sgn_pos h
 have e2 := M02.sgn_pos h'
 have := M02.sgn_opp x.1 x.2
 simp only [yD] at e2
 omega
theorem BJ {x : Gd} (h : nn x) (h' : nn (yD x)) : x = (0, 0) := by
 rcases h with h | h
 ·exact h
 ·rcases h' with h' | h'
  ·have := congrArg yD h'
   rw [Xh] at this
   rw [this]; rfl
  ·exact absurd h' (X6 h)
def nnb (x : Gd) : Bool := decide (0 <= M02.sgn x.1 x.2)
theorem QE {x : Gd} (h : nnb x = true) : nn x := by
 unfold nnb at h
 rw [decide_eq_true_eq] at h
 rcases M02.pos_cases x.1 x.2 with ⟨h1, h2⟩ | hp | hp
 ·exact .inl (Prod.ext h1 h2)
 ·exact .inr hp
 ·have := M02.sgn_pos hp
  rw [M02.sgn_opp] at this
  omega
theorem Y2 (k : Int) (h : 0 <= k) : nn (k, 0) := by
 by_cases c : k = 0
 ·left; rw [c]
 ·exact .inr (.inl ⟨h, Int.le_refl _, .inl (by omega)⟩)
theorem GZ {x : Gd} (h : nn x) : YQ x ≠ -1 := by
 rcases h with rfl | h
 ·decide
 ·unfold YQ; rw [M02.sgn_pos h]; decide
theorem Di {x : Gd} (h : nn (yD x)) : YQ x ≠ 1 := by
 have := GZ h
 unfold YQ yD at *
 rw [M02.sgn_opp] at this
 omega
def YF (r s : List Gd) : List Gd := List.zipWith yz r s
def rsc (c : Gd) (r : List Gd) : List Gd := r.map (yE c)
theorem xp {r s : List Gd} (h : r.length = s.length) : (YF r s).length = r.length := by simp [YF, h]
theorem zG (c : Gd) (r : List Gd) : (rsc c r).length = r.length := by simp [rsc]
theorem vb {r s : List Gd} (h : r.length = s.length) (e : ∀ k, k < r.length -> r.getD k (0, 0) = s.getD k (0, 0)) : r = s := by
 apply g2z h
 intro k h1 h2
 have := e k h1
 simpa [g0j, h1, h2] using this
theorem wA {r s : List Gd} (h : r.length = s.length) (k : Nat) : (YF r s).getD k (0, 0) = yz (r.getD k (0, 0)) (s.getD k (0, 0)) := by
 unfold YF
 simp only [g0j, List.getElem?_zipWith]
 by_cases hk : k < r.length
 ·simp [hk, h ▸ hk]
 ·have h2 : ¬ k < s.length := by omega
  simp [g1t (Nat.not_lt.mp hk), g1t (Nat.not_lt.mp h2), yz]
theorem xo (c : Gd) (r : List Gd) (k : Nat) : (rsc c r).getD k (0, 0) = yE c (r.getD k (0, 0)) := by
 unfold rsc
 simp only [g0j, g0w]
 by_cases hk : k < r.length
 ·simp [hk]
 ·simp [g1t (Nat.not_lt.mp hk), yE]
theorem xZ (A : Nat -> Gd) {i : Nat} {r : List Gd} (hi : i < r.length) (k : Nat) : (w8 A i r).getD k (0, 0) = if k = i then yz (r.getD i (0, 0)) (yD (yX A 0 r (0, 0))) else r.getD k (0, 0) := by
 unfold w8
 simp only [g0j, g0x]
 by_cases h : k = i
 ·subst h; simp [hi]
 ·have : ¬ i = k := fun e => h e.symm
  simp [h, this]
theorem Z3 (A : Nat -> Gd) : ∀ (r s : List Gd) (k : Nat), r.length = s.length -> yX A k (YF r s) (0, 0) = yz (yX A k r (0, 0)) (yX A k s (0, 0))
 | [], [], k, _ => rfl
 | [], _ :: _, _, h => by cases h
 | _ :: _, [], _, h => by cases h
 | x :: r, y :: s, k, h => by
  have ih := Z3 A r s (k + 1) (by simpa using h)
  unfold YF at ih ⊢
  simp only [List.zipWith_cons_cons, yX, xB]
  rw [xm A (List.zipWith yz r s), ih, xm A r (k + 1) (yE (A k) x), xm A s (k + 1) (yE (A k) y)]
  generalize yX A (k + 1) r (0, 0) = p
  generalize yX A (k + 1) s (0, 0) = q
  simp only [yz, yE, Prod.mk.injEq]
  constructor <;> grind
theorem Z2 (A : Nat -> Gd) (c : Gd) : ∀ (r : List Gd) (k : Nat), yX A k (rsc c r) (0, 0) = yE c (yX A k r (0, 0))
 | [], k => by simp [rsc, yX, yE]
 | x :: r, k => by
  have ih := Z2 A c r (k + 1)
  unfold rsc at ih ⊢
  simp only [g0f, yX, xB]
  rw [xm A (List.map (yE c) r), ih, xm A r (k + 1) (yE (A k) x)]
  generalize yX A (k + 1) r (0, 0) = p
  simp only [yz, yE, Prod.mk.injEq]
  constructor <;> grind
theorem K8 (A : Nat -> Gd) {i : Nat} {r s : List Gd} (h : r.length = s.length) (hi : i < r.length) : w8 A i (YF r s) = YF (w8 A i r) (w8 A i s) := by
 have hl : (w8 A i r).length = (w8 A i s).length := by rw [zV, zV, h]
 apply vb (by rw [zV, xp h, xp hl, zV])
 intro k _
 rw [xZ A (by rw [xp h]; exact hi), wA hl, xZ A hi, xZ A (h ▸ hi), wA h, wA h, Z3 A r s 0 h]
 split
 ·simp only [yz, yD, Prod.mk.injEq]; constructor <;> omega
 ·rfl
theorem BO (A : Nat -> Gd) {i : Nat} (c : Gd) {r : List Gd} (hi : i < r.length) : w8 A i (rsc c r) = rsc c (w8 A i r) := by
 apply vb (by rw [zV, zG, zG, zV])
 intro k _
 rw [xZ A (by rw [zG]; exact hi), Z2]
 simp only [xo]
 rw [xZ A hi]
 split
 ·simp only [yz, yD, yE, Prod.mk.injEq]; constructor <;> grind
 ·rfl
def InW (n : Nat) (w : List Nat) : Prop := ∀ i ∈ w, i < n
theorem InW.app {n : Nat} {u v : List Nat} (hu : InW n u) (hv : InW n v) : InW n (u ++ v) := fun i hi => (g1l.mp hi).elim (hu i) (hv i)
theorem InW.left {n : Nat} {u v : List Nat} (h : InW n (u ++ v)) : InW n u := fun i hi => h i (g1l.mpr (.inl hi))
theorem InW.right {n : Nat} {u v : List Nat} (h : InW n (u ++ v)) : InW n v := fun i hi => h i (g1l.mpr (.inr hi))
theorem InW.rev {n : Nat} {u : List Nat} (h : InW n u) : InW n u.reverse := fun i hi => h i (by simpa using hi)
theorem InW.one {n i : Nat} (h : i < n) : InW n [i] := fun k hk => by simp at hk; omega
theorem InW.cons {n i : Nat} {u : List Nat} (h : i < n) (hu : InW n u) : InW n (i :: u) := fun k hk => by
 rcases g0n.mp hk with rfl | hk
 ·exact h
 ·exact hu k hk
section
variable (A : Nat -> Nat -> Gd)
theorem xl (i : Nat) (w : List Nat) (r : List Gd) : yf A (i :: w) r = w8 (A i) i (yf A w r) := rfl
theorem jW : ∀ (w : List Nat) {r s : List Gd}, r.length = s.length -> InW r.length w -> yf A w (YF r s) = YF (yf A w r) (yf A w s)
 | [], r, s, h, hw => rfl
 | i :: w, r, s, h, hw => by
  rw [xl, xl, xl, jW w h (fun k hk => hw k (g0o _ hk)), K8 (A i) (by rw [zK, zK, h]) (by rw [zK]; exact hw i g0l)]
theorem uo (c : Gd) : ∀ (w : List Nat) {r : List Gd}, InW r.length w -> yf A w (rsc c r) = rsc c (yf A w r)
 | [], r, hw => rfl
 | i :: w, r, hw => by
  rw [xl, xl, uo c w (fun k hk => hw k (g0o _ hk)), BO (A i) c (by rw [zK]; exact hw i g0l)]
def Eqv (n : Nat) (u v : List Nat) : Prop := ∀ r : List Gd, r.length = n -> yf A u r = yf A v r
variable {A} {n : Nat}
theorem Eqv.rfl' (u : List Nat) : Eqv A n u u := fun _ _ => rfl
theorem Eqv.symm {u v : List Nat} (h : Eqv A n u v) : Eqv A n v u := fun r hr => (h r hr).symm
theorem Eqv.trans {u v w : List Nat} (h : Eqv A n u v) (h' : Eqv A n v w) : Eqv A n u w := fun r hr => (h r hr).trans (h' r hr)
theorem Eqv.app {u v u' v' : List Nat} (h : Eqv A n u u') (h' : Eqv A n v v') : Eqv A n (u ++ v) (u' ++ v') := fun r hr => by
 rw [y7, y7, h' r hr, h _ (by rw [zK, hr])]
variable (h2 : ∀ i, A i i = (2, 0))
include h2
theorem Eqv.twice {s : Nat} (hs : s < n) : Eqv A n [s, s] [] := fun r hr => Y8 (h2 s) r (by omega)
theorem Yr {w : List Nat} (hw : InW n w) : Eqv A n (w.reverse ++ w) [] := fun r hr => by
 rw [y7]
 exact km h2 w r (fun i hi => by rw [hr]; exact hw i hi)
theorem kI {w : List Nat} (hw : InW n w) : Eqv A n (w ++ w.reverse) [] := by
 have := Yr h2 hw.rev
 rwa [g2f] at this
theorem Eqv.rev {u v : List Nat} (hu : InW n u) (hv : InW n v) (h : Eqv A n u v) : Eqv A n u.reverse v.reverse := by
 have a1 : Eqv A n (u.reverse ++ (v ++ v.reverse)) (u.reverse ++ []) := (Eqv.rfl' _).app (kI h2 hv)
 have a2 : Eqv A n ((u.reverse ++ v) ++ v.reverse) ((u.reverse ++ u) ++ v.reverse) := ((Eqv.rfl' _).app h.symm).app (Eqv.rfl' _)
 have a3 : Eqv A n ((u.reverse ++ u) ++ v.reverse) ([] ++ v.reverse) := (Yr h2 hu).app (Eqv.rfl' _)
 rw [g0t, <- g1b] at a1
 exact a1.symm.trans (a2.trans a3)
theorem Xl {w : List Nat} {s : Nat} (hs : s < n) : Eqv A n ((w ++ [s]) ++ [s]) w := by
 have := (Eqv.rfl' (A := A) (n := n) w).app (Eqv.twice h2 hs)
 rw [g0t] at this
 simpa using this
end
theorem ZM {α : Type} (P : α -> Prop) (f : α -> Nat) (h : ∃ x, P x) : ∃ x, P x /\ ∀ y, P y -> f x <= f y := by
 obtain ⟨x, hx⟩ := h
 have gen : ∀ k x, P x -> f x = k -> ∃ x, P x /\ ∀ y, P y -> f x <= f y := by
  intro k
  induction k using Nat.strongRecOn with
  | ind k ih =>
   intro x hx hk
   by_cases c : ∃ y, P y /\ f y < f x
   ·obtain ⟨y, hy, hl⟩ := c
    exact ih (f y) (by omega) y hy rfl
   ·exact ⟨x, hx, fun y hy => Nat.not_lt.mp fun hl => c ⟨y, hy, hl⟩⟩
 exact gen _ x hx rfl
section
variable (A : Nat -> Nat -> Gd) (n : Nat)
def Red (w : List Nat) : Prop := InW n w /\ ∀ u, InW n u -> Eqv A n u w -> w.length <= u.length
def qh (w : List Nat) (s : Nat) : Prop := ∀ u, InW n u -> Eqv A n u (w ++ [s]) -> w.length <= u.length
theorem ZE {w : List Nat} (hw : InW n w) : ∃ u, Red A n u /\ Eqv A n u w := by
 obtain ⟨u, ⟨h1, h3⟩, h4⟩ := ZM (fun u => InW n u /\ Eqv A n u w) List.length ⟨w, hw, Eqv.rfl' w⟩
 exact ⟨u, ⟨h1, fun v hv e => h4 v ⟨hv, e.trans h3⟩⟩, h3⟩
end
def sel (s t : Nat) : Bool -> Nat := fun b => if b = true then s else t
def tnW (a b : Gd) : List Bool -> Tn
 | [] => tn0
 | c :: l => if c = true then tnI b (tnW a b l) else tnJ a (tnW a b l)
def alt : Nat -> List Bool
 | 0 => []
 | k + 1 => decide (k % 2 = 1) :: alt k
theorem xV : ∀ k, (alt k).length = k
 | 0 => rfl
 | k + 1 => by rw [alt, g0d, xV k]
theorem kX {m : Nat} : ∀ {k : Nat}, m <= k -> ∃ pre, alt k = pre ++ alt m
  | 0, h => ⟨[], by have : m = 0 := by omega
                    subst this; rfl⟩
  | k + 1, h => by
    by_cases c : m = k + 1
    · exact ⟨[], by rw [c]; rfl⟩
    · obtain ⟨pre, e⟩ := kX (m := m) (k := k) (by omega)
      exact ⟨decide (k % 2 = 1) :: pre, by rw [alt, e]; rfl⟩
theorem VN : ∀ k, ∃ x, alt (k + 1) = x ++ [false] /\ x.length = k
 | 0 => ⟨[], rfl, rfl⟩
 | k + 1 => by
  obtain ⟨x, e, h⟩ := VN k
  exact ⟨decide ((k + 1) % 2 = 1) :: x, by rw [alt, e]; rfl, by simp [h]⟩
theorem VM : ∀ a : List Bool, (∀ x b y, a ≠ x ++ b :: b :: y) -> (∀ x, a ≠ x ++ [true]) -> a = alt a.length
 | [], _, _ => rfl
 | b :: a, h1, h2 => by
  have ih := VM a (fun x c y e => h1 (b :: x) c y (by rw [e]; rfl)) (fun x e => h2 (b :: x) (by rw [e]; rfl))
  cases a with
  | nil =>
   cases b with
   | true => exact absurd rfl (h2 [])
   | false => rfl
  | cons c a =>
   rw [g0d] at ih ⊢
   have e1 : c = decide (a.length % 2 = 1) := by
    rw [alt] at ih
    exact (List.cons.inj ih).1
   have e2 : b ≠ c := fun e => h1 [] b a (by rw [e]; rfl)
   rw [g0d, alt, <- ih]
   congr 1
   by_cases c1 : a.length % 2 = 1
   ·have c2 : ¬ ((a.length + 1) % 2 = 1) := by omega
    simp only [c1, c2, decide_true, decide_false] at e1 ⊢
    cases b <;> simp_all
   ·have c2 : (a.length + 1) % 2 = 1 := by omega
    simp only [c1, c2, decide_true, decide_false] at e1 ⊢
    cases b <;> simp_all
section
variable {A : Nat -> Nat -> Gd} {s t n : Nat} (hst : s ≠ t) (hs2 : A s s = (2, 0)) (ht2 : A t t = (2, 0))
include hst hs2 ht2
theorem Xa {r : List Gd} (hs : s < r.length) (ht : t < r.length) : ∀ l : List Bool, ∃ R, yf A (l.map (sel s t)) r = R /\ R = jR s (ev (tnW (A s t) (A t s) l).p (yX (A s) 0 r (0, 0)) (yX (A t) 0 r (0, 0))) (jR t (ev (tnW (A s t) (A t s) l).q (yX (A s) 0 r (0, 0)) (yX (A t) 0 r (0, 0))) r) ∧
      yX (A s) 0 R (0, 0) = ev (tnW (A s t) (A t s) l).x (yX (A s) 0 r (0, 0)) (yX (A t) 0 r (0, 0)) /\ yX (A t) 0 R (0, 0) = ev (tnW (A s t) (A t s) l).y (yX (A s) 0 r (0, 0)) (yX (A t) 0 r (0, 0)) := by
  generalize hx : yX (A s) 0 r (0, 0) = x
  generalize hy : yX (A t) 0 r (0, 0) = y
  intro l
  induction l with
  | nil =>
    refine ⟨r, rfl, ?_, ?_, ?_⟩
    · simp only [tnW, tn0, Jg]
      rw [qK ht, qK hs]
    · rw [hx]; simp [tnW, tn0, ev, yz, yE]
    · rw [hy]; simp [tnW, tn0, ev, yz, yE]
  | cons c l ih =>
    obtain ⟨R, h1, h2, h3, h4⟩ := ih
    have hRl : R.length = r.length := by rw [h2, xc, xc]
    cases c with
    | false =>
      have htn : tnW (A s t) (A t s) (false :: l) = tnJ (A s t) (tnW (A s t) (A t s) l) := rfl
      rw [htn]
      generalize tnW (A s t) (A t s) l = z at h2 h3 h4
      have e1 : w8 (A t) t R = jR t (ev (XJ z.y) x y) R := by rw [qx, h4, ua]
      refine ⟨w8 (A t) t R, ?_, ?_, ?_, ?_⟩
      · rw [g0f, xl, h1]; rfl
      · rw [e1, h2, <- Xz hst, qL _ _ ht, <- jI]; rfl
      · rw [e1, va (A s) _ (by omega), h3, <- Gz, <- jI]; rfl
      · rw [e1, va (A t) _ (by omega), h4, ht2, ua, ZY, <- ua]; rfl
    | true =>
      have htn : tnW (A s t) (A t s) (true :: l) = tnI (A t s) (tnW (A s t) (A t s) l) := rfl
      rw [htn]
      generalize tnW (A s t) (A t s) l = z at h2 h3 h4
      have e2 : w8 (A s) s R = jR s (ev (XJ z.x) x y) R := by rw [qx, h3, ua]
      refine ⟨w8 (A s) s R, ?_, ?_, ?_, ?_⟩
      · rw [g0f, xl, h1]; rfl
      · rw [e2, h2, qL _ _ (by rw [xc]; exact hs), <- jI]; rfl
      · rw [e2, va (A s) _ (by omega), h3, hs2, ua, ZY, <- ua]; rfl
      · rw [e2, va (A t) _ (by omega), h4, <- Gz, <- jI]; rfl
theorem qE (hs : s < n) (ht : t < n) {l l' : List Bool} (hp : (tnW (A s t) (A t s) l).p = (tnW (A s t) (A t s) l').p) (hq : (tnW (A s t) (A t s) l).q = (tnW (A s t) (A t s) l').q) : Eqv A n (l.map (sel s t)) (l'.map (sel s t)) := fun r hr => by
 obtain ⟨R, h1, h2, _⟩ := Xa hst hs2 ht2 (r := r) (by omega) (by omega) l
 obtain ⟨R', h1', h2', _⟩ := Xa hst hs2 ht2 (r := r) (by omega) (by omega) l'
 rw [h1, h1', h2, h2', hp, hq]
end
theorem kR (b : Bool) {m : Nat} (h : 2 <= m /\ m <= 6) : (tnW (zH (m : Int) b) (zH (m : Int) (!b)) (alt m)).p = (tnW (zH (m : Int) b) (zH (m : Int) (!b)) ((alt m).map (!·))).p /\ (tnW (zH (m : Int) b) (zH (m : Int) (!b)) (alt m)).q = (tnW (zH (m : Int) b) (zH (m : Int) (!b)) ((alt m).map (!·))).q := by
 rcases (by omega : m = 2 \/ m = 3 \/ m = 4 \/ m = 5 \/ m = 6) with e | e | e | e | e <;> subst e <;> cases b <;> decide +kernel
theorem xn {n i k : Nat} (h : k < n) : (ye n i).getD k (0, 0) = if k = i then (1, 0) else (0, 0) := by
 unfold ye
 simp [g0j, h]
def UN (n s t : Nat) (p q : Gd) : List Gd := YF (rsc p (ye n s)) (rsc q (ye n t))
theorem yw (n s t : Nat) (p q : Gd) : (UN n s t p q).length = n := by
 unfold UN
 rw [xp (by rw [zG, zG, zg, zg]), zG, zg]
theorem jX (c : Gd) : yE c (1, 0) = c := by simp [yE]
theorem qA (c : Gd) : yE c (0, 0) = (0, 0) := by simp [yE]
theorem wD {n s t k : Nat} (p q : Gd) (hk : k < n) : (UN n s t p q).getD k (0, 0) = yz (if k = s then p else (0, 0)) (if k = t then q else (0, 0)) := by
 unfold UN
 rw [wA (by rw [zG, zG, zg, zg]), xo, xo, xn hk, xn hk]
 by_cases h1 : k = s <;> by_cases h2 : k = t <;> simp only [h1, h2, if_true, if_false, jX, qA] <;> split <;> simp [jX, qA]
theorem VD (A : Nat -> Gd) {n s t : Nat} (p q : Gd) (hs : s < n) (ht : t < n) : yX A 0 (UN n s t p q) (0, 0) = yz (yE p (A s)) (yE q (A t)) := by
 unfold UN
 rw [Z3 A _ _ 0 (by rw [zG, zG, zg, zg]), Z2, Z2, jS A n s hs, jS A n t ht]
theorem Mn {A : Nat -> Nat -> Gd} {n s t : Nat} (hst : s ≠ t) (hs2 : A s s = (2, 0)) (p q : Gd) (hs : s < n) (ht : t < n) : w8 (A s) s (UN n s t p q) = UN n s t (yD (yz p (yE (A s t) q))) q := by
 apply vb (by rw [zV, yw, yw])
 intro k hk
 rw [zV, yw] at hk
 rw [xZ (A s) (by rw [yw]; exact hs), VD (A s) p q hs ht, wD p q hk, wD _ q hk, wD p q hs, hs2]
 by_cases c : k = s
 ·subst c
  simp only [if_true, hst, if_false, xJ, yz, yD, yE, Prod.mk.injEq]
  constructor <;> grind
 ·simp only [c, if_false]
theorem Mm {A : Nat -> Nat -> Gd} {n s t : Nat} (hst : s ≠ t) (ht2 : A t t = (2, 0)) (p q : Gd) (hs : s < n) (ht : t < n) : w8 (A t) t (UN n s t p q) = UN n s t p (yD (yz q (yE (A t s) p))) := by
 apply vb (by rw [zV, yw, yw])
 intro k hk
 rw [zV, yw] at hk
 rw [xZ (A t) (by rw [yw]; exact ht), VD (A t) p q hs ht, wD p q hk, wD p _ hk, wD p q ht, ht2]
 by_cases c : k = t
 ·subst c
  simp only [if_true, Ne.symm hst, if_false, xB, yz, yD, yE, Prod.mk.injEq]
  constructor <;> grind
 ·simp only [c, if_false]
def pqA (a b : Gd) : Nat -> Gd × Gd
 | 0 => ((1, 0), (0, 0))
 | k + 1 => if k % 2 = 1 then (yD (yz (pqA a b k).1 (yE a (pqA a b k).2)), (pqA a b k).2) else ((pqA a b k).1, yD (yz (pqA a b k).2 (yE b (pqA a b k).1)))
theorem Wh {A : Nat -> Nat -> Gd} {n s t : Nat} (hst : s ≠ t) (hs2 : A s s = (2, 0)) (ht2 : A t t = (2, 0)) (hs : s < n) (ht : t < n) : ∀ k, yf A ((alt k).map (sel s t)) (ye n s) = UN n s t (pqA (A s t) (A t s) k).1 (pqA (A s t) (A t s) k).2
 | 0 => by
  apply vb (by rw [zK, yw, zg])
  intro k hk
  rw [zK, zg] at hk
  rw [wD _ _ hk]
  show (ye n s).getD k (0, 0) = _
  rw [xn hk]
  by_cases c : k = s <;> simp [pqA, c, yz]
 | k + 1 => by
  have ih := Wh hst hs2 ht2 hs ht k
  rw [alt, g0f, xl, ih, pqA]
  by_cases c : k % 2 = 1
  ·have e : sel s t (decide (k % 2 = 1)) = s := by simp [sel, c]
   rw [e, if_pos c, Mn hst hs2 _ _ hs ht]
  ·have e : sel s t (decide (k % 2 = 1)) = t := by simp [sel, c]
   rw [e, if_neg c, Mm hst ht2 _ _ hs ht]
def PQ (x : Gd × Gd) : Prop := nn x.1 /\ nn x.2 /\ (x.2 = (0, 0) -> x.1 = (1, 0)) /\ (x.1 = (0, 0) -> x.2 = (1, 0))
theorem Hb (b : Bool) {m : Nat} (h : 2 <= m /\ m <= 6) {k : Nat} (hk : k < m) : PQ (pqA (zH (m : Int) b) (zH (m : Int) (!b)) k) := by
 have key : ∀ m : Fin 7, 2 <= m.1 -> ∀ b : Bool, ∀ k : Fin 7, k.1 < m.1 -> nnb (pqA (zH (m.1 : Int) b) (zH (m.1 : Int) (!b)) k.1).1 = true /\ nnb (pqA (zH (m.1 : Int) b) (zH (m.1 : Int) (!b)) k.1).2 = true ∧
   ((pqA (zH (m.1 : Int) b) (zH (m.1 : Int) (!b)) k.1).2 = (0, 0) -> (pqA (zH (m.1 : Int) b) (zH (m.1 : Int) (!b)) k.1).1 = (1, 0)) /\ ((pqA (zH (m.1 : Int) b) (zH (m.1 : Int) (!b)) k.1).1 = (0, 0) -> (pqA (zH (m.1 : Int) b) (zH (m.1 : Int) (!b)) k.1).2 = (1, 0)) := by decide +kernel
 have := key ⟨m, by omega⟩ h.1 b ⟨k, by omega⟩ hk
 exact ⟨QE this.1, QE this.2.1, this.2.2.1, this.2.2.2⟩
theorem jV : ∀ k : Nat, pqA (-2, 0) (-2, 0) k = if k % 2 = 1 then (((k : Int), 0), ((k : Int) + 1, 0)) else (((k : Int) + 1, 0), ((k : Int), 0))
 | 0 => rfl
 | k + 1 => by
  rw [pqA, jV k]
  by_cases c : k % 2 = 1
  ·have c2 : ¬ ((k + 1) % 2 = 1) := by omega
   rw [if_pos c, if_pos c, if_neg c2]
   refine Prod.ext (Prod.ext ?_ ?_) (Prod.ext ?_ ?_) <;> simp only [yD, yz, yE] <;> grind
  ·have c2 : (k + 1) % 2 = 1 := by omega
   rw [if_neg c, if_neg c, if_pos c2]
   refine Prod.ext (Prod.ext ?_ ?_) (Prod.ext ?_ ?_) <;> simp only [yD, yz, yE] <;> grind
theorem ka (k : Nat) : PQ (pqA (-2, 0) (-2, 0) k) := by
 rw [jV]
 split
 ·refine ⟨Y2 _ (by omega), Y2 _ (by omega), fun e => ?_, fun e => ?_⟩
  ·have := congrArg Prod.fst e; simp only at this; omega
  ·have := congrArg Prod.fst e; simp only at this; omega
 ·refine ⟨Y2 _ (by omega), Y2 _ (by omega), fun e => ?_, fun e => ?_⟩
  ·have := congrArg Prod.fst e
   simp only at this ⊢
   rw [this]; rfl
  ·have := congrArg Prod.fst e; simp only at this; omega
theorem Kf (b : Bool) {m : Nat} (h : 2 <= m /\ m <= 6) {k : Nat} (hk : k < m) :
  ((pqA (zH (m : Int) b) (zH (m : Int) (!b)) k).2 = (0, 0) -> (tnW (zH (m : Int) b) (zH (m : Int) (!b)) (alt k ++ [true])).p = (tnW (zH (m : Int) b) (zH (m : Int) (!b)) (true :: alt k)).p /\ (tnW (zH (m : Int) b) (zH (m : Int) (!b)) (alt k ++ [true])).q = (tnW (zH (m : Int) b) (zH (m : Int) (!b)) (true :: alt k)).q) ∧
  ((pqA (zH (m : Int) b) (zH (m : Int) (!b)) k).1 = (0, 0) -> (tnW (zH (m : Int) b) (zH (m : Int) (!b)) (alt k ++ [true])).p = (tnW (zH (m : Int) b) (zH (m : Int) (!b)) (false :: alt k)).p /\ (tnW (zH (m : Int) b) (zH (m : Int) (!b)) (alt k ++ [true])).q = (tnW (zH (m : Int) b) (zH (m : Int) (!b)) (false :: alt k)).q) := by
 have key : ∀ m : Fin 7, 2 <= m.1 -> ∀ b : Bool, ∀ k : Fin 7, k.1 < m.1 →
  ((pqA (zH (m.1 : Int) b) (zH (m.1 : Int) (!b)) k.1).2 = (0, 0) -> (tnW (zH (m.1 : Int) b) (zH (m.1 : Int) (!b)) (alt k.1 ++ [true])).p = (tnW (zH (m.1 : Int) b) (zH (m.1 : Int) (!b)) (true :: alt k.1)).p /\ (tnW (zH (m.1 : Int) b) (zH (m.1 : Int) (!b)) (alt k.1 ++ [true])).q = (tnW (zH (m.1 : Int) b) (zH (m.1 : Int) (!b)) (true :: alt k.1)).q) ∧
  ((pqA (zH (m.1 : Int) b) (zH (m.1 : Int) (!b)) k.1).1 = (0, 0) -> (tnW (zH (m.1 : Int) b) (zH (m.1 : Int) (!b)) (alt k.1 ++ [true])).p = (tnW (zH (m.1 : Int) b) (zH (m.1 : Int) (!b)) (false :: alt k.1)).p /\ (tnW (zH (m.1 : Int) b) (zH (m.1 : Int) (!b)) (alt k.1 ++ [true])).q = (tnW (zH (m.1 : Int) b) (zH (m.1 : Int) (!b)) (false :: alt k.1)).q) := by decide +kernel
 exact key ⟨m, by omega⟩ h.1 b ⟨k, by omega⟩ hk
theorem Yb (ts : List T3) {i j : Nat} (hij : i ≠ j) : zf ts i j = zH (zi ts i j) (decide (i < j)) /\ zf ts j i = zH (zi ts i j) (!decide (i < j)) := by
 unfold zf jL
 have h1 : ¬ ((i : Int) = (j : Int)) := by omega
 have h2 : ¬ ((j : Int) = (i : Int)) := by omega
 rw [if_neg h1, if_neg h2, vg ts j i]
 refine ⟨by congr 1; simp, ?_⟩
 congr 1
 by_cases c : i < j
 ·have : ¬ ((j : Int) < (i : Int)) := by omega
  simp [c, this]
 ·have : (j : Int) < (i : Int) := by omega
  simp [c, this]
def NNr (r : List Gd) : Prop := ∀ k, nn (r.getD k (0, 0))
theorem U2 {ts : List T3} (hg : xX ts) {n : Nat} (w : List Nat) (s : Nat) (hs : s < n) (hw : Red (zf ts) n w) (hd : qh (zf ts) n w s) (hnil : w ≠ []) : ∃ (v : List Nat) (t : Nat) (x : Gd × Gd), v.length < w.length /\ t < n /\ t ≠ s /\ Red (zf ts) n v /\ qh (zf ts) n v s /\ qh (zf ts) n v t /\ PQ x ∧
    yf (zf ts) w (ye n s) = YF (rsc x.1 (yf (zf ts) v (ye n s))) (rsc x.2 (yf (zf ts) v (ye n t))) ∧
    ∃ b : List Nat, InW n b /\ Eqv (zf ts) n (v ++ b) w /\ (x.2 = (0, 0) -> Eqv (zf ts) n (b ++ [s]) (s :: b)) /\ (x.1 = (0, 0) -> Eqv (zf ts) n (b ++ [s]) (t :: b)) := by
  have h2 := zO ts
  obtain ⟨w', t, rfl⟩ : ∃ w' t, w = w' ++ [t] := ⟨w.dropLast, w.getLast hnil, (List.dropLast_concat_getLast hnil).symm⟩
  have ht : t < n := hw.1 t (by simp)
  have hw' : InW n w' := hw.1.left
  have hst : s ≠ t := by
    intro e
    subst e
    have := hd w' hw' (Xl h2 hs).symm
    simp at this
    omega
  have hsel : ∀ b, sel s t b < n := fun b => by cases b <;> simp [sel] <;> assumption
  have hmapW : ∀ l : List Bool, InW n (l.map (sel s t)) := fun l i hi => by
    obtain ⟨b, _, rfl⟩ := g1r.mp hi
    exact hsel b
  obtain ⟨⟨v, a⟩, ⟨hv, he, hl⟩, hmin⟩ := ZM (fun p : List Nat × List Bool => InW n p.1 /\ Eqv (zf ts) n (p.1 ++ p.2.map (sel s t)) (w' ++ [t]) /\ p.1.length + p.2.length = (w' ++ [t]).length) (fun p => p.1.length) ⟨(w', [false]), hw', Eqv.rfl' _, by simp⟩
  simp only at hv he hl hmin
  have hv1 : v.length <= w'.length := hmin (w', [false]) ⟨hw', Eqv.rfl' _, by simp⟩
  have hwl : (w' ++ [t]).length = w'.length + 1 := by simp
  have vred : Red (zf ts) n v := ⟨hv, fun u hu e => by
    have := hw.2 (u ++ a.map (sel s t)) (hu.app (hmapW a)) ((e.app (Eqv.rfl' _)).trans he)
    simp only [g0h, g0k, g0d, g0m] at this hl
    omega⟩
  have vnd : ∀ b, qh (zf ts) n v (sel s t b) := fun b u hu e => by
    apply Nat.not_lt.mp
    intro hlt
    have e2 : Eqv (zf ts) n (u ++ (b :: a).map (sel s t)) (w' ++ [t]) := by
      have e3 : Eqv (zf ts) n ((u ++ [sel s t b]) ++ a.map (sel s t)) (((v ++ [sel s t b]) ++ [sel s t b]) ++ a.map (sel s t)) := (e.app (Eqv.rfl' _)).app (Eqv.rfl' _)
      have e4 : Eqv (zf ts) n (((v ++ [sel s t b]) ++ [sel s t b]) ++ a.map (sel s t)) (v ++ a.map (sel s t)) := (Xl h2 (hsel b)).app (Eqv.rfl' _)
      have e5 := e3.trans (e4.trans he)
      have : (u ++ [sel s t b]) ++ a.map (sel s t) = u ++ (b :: a).map (sel s t) := by simp
      rwa [this] at e5
    have l1 := hw.2 (u ++ (b :: a).map (sel s t)) (hu.app (hmapW _)) e2
    simp only [g0h, g0k, g0d, g0m] at l1 hl
    have := hmin (u, b :: a) ⟨hu, e2, by simp only [g0h, g0d, g0m]; omega⟩
    simp only at this
    omega
  have shorter : ∀ u : List Nat, InW n u -> Eqv (zf ts) n (u ++ [s]) (w' ++ [t]) -> (w' ++ [t]).length <= u.length := fun u hu e => by
    apply hd u hu
    exact (Xl h2 hs).symm.trans (e.app (Eqv.rfl' _))
  have a1 : ∀ x b y, a ≠ x ++ b :: b :: y := fun x b y e => by
    subst e
    have e1 : Eqv (zf ts) n (v ++ (x ++ y).map (sel s t)) (v ++ (x ++ b :: b :: y).map (sel s t)) := by
      refine (Eqv.rfl' v).app ?_
      rw [g1f, g1f]
      refine (Eqv.rfl' _).app ?_
      have := (Eqv.twice (n := n) h2 (hsel b)).symm.app (Eqv.rfl' (A := zf ts) (y.map (sel s t)))
      simpa using this
    have := hw.2 (v ++ (x ++ y).map (sel s t)) (hv.app (hmapW _)) (e1.trans he)
    simp only [g0h, g0k, g0d] at this hl
    omega
  have a2 : ∀ x, a ≠ x ++ [true] := fun x e => by
    subst e
    have := shorter (v ++ x.map (sel s t)) (hv.app (hmapW _)) (by simpa [sel] using he)
    simp only [g0h, g0k, g0d, g0m] at this hl
    omega
  have ha := VM a a1 a2
  obtain ⟨p1, p2⟩ := Yb ts hst
  have gt := yT hg (s : Int) (t : Int)
  have hpq : PQ (pqA (zf ts s t) (zf ts t s) a.length) /\ ((pqA (zf ts s t) (zf ts t s) a.length).2 = (0, 0) -> Eqv (zf ts) n (a.map (sel s t) ++ [s]) (s :: a.map (sel s t))) /\ ((pqA (zf ts s t) (zf ts t s) a.length).1 = (0, 0) -> Eqv (zf ts) n (a.map (sel s t) ++ [s]) (t :: a.map (sel s t))) := by
    rcases gt with g0 | gt
    · rw [g0] at p1 p2
      have q1 : zH 0 (decide (s < t)) = (-2, 0) := by cases decide (s < t) <;> rfl
      have q2 : zH 0 (!decide (s < t)) = (-2, 0) := by cases decide (s < t) <;> rfl
      rw [p1, p2, q1, q2]
      refine ⟨ka _, fun e => ?_, fun e => ?_⟩
      · rw [jV] at e
        have hk0 : a.length = 0 := by
          split at e
          · have := congrArg Prod.fst e; simp only at this; omega
          · have := congrArg Prod.fst e; simp only at this; omega
        have : a = [] := g3h.mp hk0
        rw [this]
        exact Eqv.rfl' _
      · rw [jV] at e
        exfalso
        split at e
        · have := congrArg Prod.fst e; simp only at this; omega
        · have := congrArg Prod.fst e; simp only at this; omega
    · obtain ⟨m, em⟩ : ∃ m : Nat, zi ts s t = (m : Int) := ⟨(zi ts s t).toNat, by omega⟩
      rw [em] at p1 p2 gt
      have hm : 2 <= m /\ m <= 6 := by omega
      have hkm : a.length < m := by
       apply Nat.not_le.mp
       intro hle
       obtain ⟨pre, epre⟩ := kX hle
       obtain ⟨b1, b2⟩ := kR (decide (s < t)) hm
       rw [<- p1, <- p2] at b1 b2
       have br := qE (n := n) hst (h2 s) (h2 t) hs ht b1 b2
       obtain ⟨y, ey, hy⟩ := VN (m - 1)
       have em1 : m - 1 + 1 = m := by omega
       rw [em1] at ey
       have ey2 : (alt m).map (!·) = y.map (!·) ++ [true] := by rw [ey]; simp
       rw [ey2, g1f] at br
       have e1 : Eqv (zf ts) n (v ++ (pre.map (sel s t) ++ ((y.map (!·)).map (sel s t) ++ [s]))) (w' ++ [t]) := by
         have e2 : a.map (sel s t) = pre.map (sel s t) ++ (alt m).map (sel s t) := by rw [ha, epre, g1f]
         rw [e2] at he
         refine Eqv.trans ?_ he
         refine (Eqv.rfl' v).app ((Eqv.rfl' _).app ?_)
         exact br.symm
       have := shorter (v ++ (pre.map (sel s t) ++ (y.map (!·)).map (sel s t))) (hv.app ((hmapW _).app (hmapW _))) (by simpa using e1)
       have el : a.length = pre.length + m := by
         have := congrArg List.length epre
         rw [g0h, xV, xV] at this
         exact this
       simp only [g0h, g0k, g0d, g0m] at this hl
       omega
      obtain ⟨w1, w2⟩ := Kf (decide (s < t)) hm hkm
      rw [p1, p2]
      refine ⟨Hb _ hm hkm, fun e => ?_, fun e => ?_⟩
      · obtain ⟨f1, f2⟩ := w1 e
        rw [<- p1, <- p2, <- ha] at f1 f2
        have := qE (n := n) hst (h2 s) (h2 t) hs ht f1 f2
        simpa [sel] using this
      · obtain ⟨f1, f2⟩ := w2 e
        rw [<- p1, <- p2, <- ha] at f1 f2
        have := qE (n := n) hst (h2 s) (h2 t) hs ht f1 f2
        simpa [sel] using this
  have le := Wh hst (h2 s) (h2 t) hs ht a.length
  rw [<- ha] at le
  have e := he (ye n s) (zg n s)
  rw [y7, le] at e
  have hlen : (rsc (pqA (zf ts s t) (zf ts t s) a.length).1 (ye n s)).length = (rsc (pqA (zf ts s t) (zf ts t s) a.length).2 (ye n t)).length := by rw [zG, zG, zg, zg]
  unfold UN at e
  rw [jW _ _ hlen (by rw [zG, zg]; exact hv), uo _ _ _ (by rw [zg]; exact hv), uo _ _ _ (by rw [zg]; exact hv)] at e
  refine ⟨v, t, _, by omega, ht, Ne.symm hst, vred, by have := vnd true; simpa [sel] using this, by have := vnd false; simpa [sel] using this, hpq.1, e.symm, a.map (sel s t), hmapW a, he, hpq.2.1, hpq.2.2⟩
theorem XI {ts : List T3} (hg : xX ts) {n : Nat} : ∀ (k : Nat) (w : List Nat) (s : Nat), w.length = k -> s < n -> Red (zf ts) n w -> qh (zf ts) n w s -> NNr (yf (zf ts) w (ye n s)) := by
 intro k
 induction k using Nat.strongRecOn with
 | ind k ih =>
  intro w s hk hs hw hd
  by_cases hnil : w = []
  ·subst hnil
   intro j
   show nn ((ye n s).getD j (0, 0))
   by_cases hj : j < n
   ·rw [xn hj]
    split
    ·exact Y2 1 (by decide)
    ·exact .inl rfl
   ·left
    simp [g0j, g1t (show (ye n s).length <= j by rw [zg]; omega)]
  ·obtain ⟨v, t, x, hl, ht, _, vr, vs, vt, hx, e, _⟩ := U2 hg w s hs hw hd hnil
   have ps := ih v.length (by omega) v s rfl hs vr vs
   have pt := ih v.length (by omega) v t rfl ht vr vt
   intro j
   rw [e, wA (by rw [zG, zG, zK, zK, zg, zg]), xo, xo]
   exact QG (QF hx.1 (ps j)) (QF hx.2.1 (pt j))
def NPr (r : List Gd) : Prop := ∀ k, nn (yD (r.getD k (0, 0)))
def UC (s : Int) (r : List Gd) : Bool := r.any fun x => decide (YQ x = s)
theorem Vv {s : Int} {r : List Gd} (h : UC s r = true) : ∃ k, k < r.length /\ YQ (r.getD k (0, 0)) = s := by
 unfold UC at h
 rw [g2t] at h
 obtain ⟨x, hx, e⟩ := h
 obtain ⟨k, hk, ek⟩ := List.getElem_of_mem hx
 refine ⟨k, hk, ?_⟩
 simp only [g0j, g1i hk, g2y, ek]
 simpa using e
theorem Wl {s : Int} {r : List Gd} {k : Nat} (hk : k < r.length) (h : YQ (r.getD k (0, 0)) = s) : UC s r = true := by
 unfold UC
 rw [g2t]
 refine ⟨r[k], List.getElem_mem hk, ?_⟩
 simp only [g0j, g1i hk, g2y] at h
 simpa using h
theorem NNr.no {r : List Gd} (h : NNr r) : UC (-1) r = false := by
 apply Bool.eq_false_iff.mpr
 intro e
 obtain ⟨k, _, hk⟩ := Vv e
 exact GZ (h k) hk
theorem NPr.no {r : List Gd} (h : NPr r) : UC 1 r = false := by
 apply Bool.eq_false_iff.mpr
 intro e
 obtain ⟨k, _, hk⟩ := Vv e
 exact Di (h k) hk
def Nz (r : List Gd) : Prop := ∃ k, k < r.length /\ r.getD k (0, 0) ≠ (0, 0)
theorem NNr.yes {r : List Gd} (h : NNr r) (hz : Nz r) : UC 1 r = true := by
 obtain ⟨k, hk, e⟩ := hz
 refine Wl hk ?_
 rcases h k with c | c
 ·exact absurd c e
 ·exact M02.sgn_pos c
theorem NPr.yes {r : List Gd} (h : NPr r) (hz : Nz r) : UC (-1) r = true := by
 obtain ⟨k, hk, e⟩ := hz
 refine Wl hk ?_
 rcases h k with c | c
 ·exact absurd (by have := congrArg yD c; rwa [Xh] at this) e
 ·have := M02.sgn_pos c
  simp only [yD] at this
  rw [M02.sgn_opp] at this
  unfold YQ
  omega
theorem NNr.notP {r : List Gd} (h : NNr r) (hz : Nz r) : ¬ NPr r := fun h' => by
 obtain ⟨k, _, e⟩ := hz
 exact e (BJ (h k) (h' k))
section
variable {ts : List T3} {n : Nat}
theorem Vk {w : List Nat} {r : List Gd} (hw : InW r.length w) (hz : ∀ k, r.getD k (0, 0) = (0, 0)) : ∀ k, (yf (zf ts) w r).getD k (0, 0) = (0, 0) := by
 have e : r = rsc (0, 0) r := vb (by rw [zG]) fun k _ => by rw [xo, hz]; rfl
 intro k
 rw [e, uo _ _ _ hw, xo]
 simp [yE]
theorem uU {w : List Nat} (hw : InW n w) {s : Nat} (hs : s < n) : Nz (yf (zf ts) w (ye n s)) := by
 apply Classical.byContradiction
 intro hc
 have hz : ∀ k, (yf (zf ts) w (ye n s)).getD k (0, 0) = (0, 0) := fun k => by
  by_cases hk : k < (yf (zf ts) w (ye n s)).length
  ·exact Classical.byContradiction fun e => hc ⟨k, hk, e⟩
  ·simp [g0j, g1t (Nat.not_lt.mp hk)]
 have h1 := Vk (ts := ts) (w := w.reverse) (by rw [zK, zg]; exact hw.rev) hz s
 rw [km (zO ts) w (ye n s) (fun i hi => by rw [zg]; exact hw i hi), xn hs, if_pos rfl] at h1
 cases h1
theorem QP {w : List Nat} {s : Nat} (hw : InW n w) (hs : s < n) (k : Nat) : (yf (zf ts) (w ++ [s]) (ye n s)).getD k (0, 0) = yD ((yf (zf ts) w (ye n s)).getD k (0, 0)) := by
 have e : w8 (zf ts s) s (ye n s) = rsc (-1, 0) (ye n s) := by
  apply vb (by rw [zV, zG])
  intro j hj
  rw [zV, zg] at hj
  rw [xZ _ (by rw [zg]; exact hs), xo, jS _ n s hs, zO, xn hs, xn hj]
  by_cases c : j = s
  ·simp [c, yz, yD, yE]
  ·simp [c, yE]
 rw [y7, xl]
 show (yf (zf ts) w (w8 (zf ts s) s (ye n s))).getD k (0, 0) = _
 rw [e, uo _ _ _ (by rw [zg]; exact hw), xo]
 simp [yE, yD]
def Lth (ts : List T3) (n : Nat) (w : List Nat) (l : Nat) : Prop := ∃ u, Red (zf ts) n u /\ Eqv (zf ts) n u w /\ u.length = l
theorem Lth.ex {w : List Nat} (hw : InW n w) : ∃ l, Lth ts n w l := by
 obtain ⟨u, h1, h2⟩ := ZE (zf ts) n hw
 exact ⟨_, u, h1, h2, rfl⟩
theorem Lth.le {w u : List Nat} {l : Nat} (h : Lth ts n w l) (hu : InW n u) (e : Eqv (zf ts) n u w) : l <= u.length := by
 obtain ⟨v, h1, h2, rfl⟩ := h
 exact h1.2 u hu (e.trans h2.symm)
theorem Lth.cong {w w' : List Nat} {l : Nat} (h : Lth ts n w l) (e : Eqv (zf ts) n w w') : Lth ts n w' l := by
 obtain ⟨v, h1, h2, h3⟩ := h
 exact ⟨v, h1, h2.trans e, h3⟩
theorem Lth.uniq {w : List Nat} {l l' : Nat} (h : Lth ts n w l) (h' : Lth ts n w l') : l = l' := by
 obtain ⟨v, h1, h2, rfl⟩ := h
 obtain ⟨v', h1', h2', rfl⟩ := h'
 have a := h1.2 v' h1'.1 (h2'.trans h2.symm)
 have b := h1'.2 v h1.1 (h2.trans h2'.symm)
 omega
theorem Lth.nil : Lth ts n [] 0 := ⟨[], ⟨(fun i hi => by cases hi), fun u _ _ => g2e _⟩, Eqv.rfl' _, rfl⟩
theorem Lth.zero {w : List Nat} (h : Lth ts n w 0) : Eqv (zf ts) n w [] := by
 obtain ⟨v, h1, h2, h3⟩ := h
 have : v = [] := g3h.mp h3
 subst this
 exact h2.symm
theorem Lth.rev {w : List Nat} {l : Nat} (hw : InW n w) (h : Lth ts n w l) : Lth ts n w.reverse l := by
 obtain ⟨l', h'⟩ := Lth.ex (ts := ts) hw.rev
 obtain ⟨u, u1, u2, u3⟩ := h
 obtain ⟨u', v1, v2, v3⟩ := h'
 have a : l' <= l := by
  have := v1.2 u.reverse u1.1.rev ((Eqv.rev (zO ts) u1.1 hw u2).trans v2.symm)
  rw [g2k] at this
  omega
 have b : l <= l' := by
  have e := Eqv.rev (zO ts) v1.1 hw.rev v2
  rw [g2f] at e
  have := u1.2 u'.reverse v1.1.rev (e.trans u2.symm)
  rw [g2k] at this
  omega
 have : l' = l := by omega
 subst this
 exact ⟨u', v1, v2, v3⟩
variable (hg : xX ts)
include hg
theorem x6 {w : List Nat} (hw : InW n w) {s : Nat} (hs : s < n) {l : Nat} (hl : Lth ts n w l) :
  (NNr (yf (zf ts) w (ye n s)) /\ Lth ts n (w ++ [s]) (l + 1)) \/ (NPr (yf (zf ts) w (ye n s)) /\ 1 <= l /\ Lth ts n (w ++ [s]) (l - 1)) := by
 have h2 := zO ts
 obtain ⟨u, u1, u2, rfl⟩ := hl
 have eu := u2 (ye n s) (zg n s)
 obtain ⟨x, x1, x2⟩ := ZE (zf ts) n (u1.1.app (InW.one hs))
 have hx := x1.2 (u ++ [s]) (u1.1.app (InW.one hs)) x2.symm
 have xs : Eqv (zf ts) n (x ++ [s]) u := (x2.app (Eqv.rfl' _)).trans (Xl h2 hs)
 have hux := u1.2 (x ++ [s]) (x1.1.app (InW.one hs)) xs
 rw [g0h, g1h] at hx hux
 have ex := x2 (ye n s) (zg n s)
 have neg : ∀ k, (yf (zf ts) x (ye n s)).getD k (0, 0) = yD ((yf (zf ts) u (ye n s)).getD k (0, 0)) := fun k => by rw [ex, QP u1.1 hs]
 have ew : Eqv (zf ts) n x (w ++ [s]) := x2.trans (u2.app (Eqv.rfl' _))
 have down : x.length <= u.length -> NPr (yf (zf ts) u (ye n s)) := fun h => by
  have nd : qh (zf ts) n x s := fun y hy e => by
   have := u1.2 y hy (e.trans xs)
   omega
  have := XI hg x.length x s rfl hs x1 nd
  intro k
  rw [<- neg k]
  exact this k
 have up : u.length <= x.length -> NNr (yf (zf ts) u (ye n s)) := fun h => by
  have nd : qh (zf ts) n u s := fun y hy e => by
   have := x1.2 y hy (e.trans x2.symm)
   omega
  exact XI hg u.length u s rfl hs u1 nd
 rw [<- eu]
 rcases Nat.lt_trichotomy x.length u.length with c | c | c
 ·right
  refine ⟨down (by omega), by omega, x, x1, ew, by omega⟩
 ·exact absurd (down (by omega)) ((up (by omega)).notP (uU u1.1 hs))
 ·left
  exact ⟨up (by omega), x, x1, ew, by omega⟩
theorem W4 {w : List Nat} (hw : InW n w) {s : Nat} (hs : s < n) : NNr (yf (zf ts) w (ye n s)) \/ NPr (yf (zf ts) w (ye n s)) := by
 obtain ⟨l, hl⟩ := Lth.ex (ts := ts) hw
 rcases x6 hg hw hs hl with h | h
 ·exact .inl h.1
 ·exact .inr h.1
theorem U3 {w : List Nat} (hw : InW n w) {l : Nat} (hl : Lth ts n w l) (h : 1 <= l) : ∃ s, s < n /\ NPr (yf (zf ts) w (ye n s)) := by
 obtain ⟨u, u1, u2, rfl⟩ := hl
 have hne : u ≠ [] := fun e => by subst e; simp at h
 obtain ⟨v, t, rfl⟩ : ∃ v t, u = v ++ [t] := ⟨u.dropLast, u.getLast hne, (List.dropLast_concat_getLast hne).symm⟩
 have ht : t < n := u1.1 t (by simp)
 refine ⟨t, ht, ?_⟩
 rcases x6 hg hw ht ⟨v ++ [t], u1, u2, rfl⟩ with ⟨_, h'⟩ | h'
 ·have e : Eqv (zf ts) n v (w ++ [t]) := (Xl (zO ts) ht).symm.trans (u2.app (Eqv.rfl' _))
  have := h'.le u1.1.left e
  simp only [g0h, g1h] at this
  omega
 ·exact h'.1
end
def GU (r : List Gd) : Bool := UC 1 r && !UC (-1) r
def XN (r : List Gd) : Bool := UC (-1) r && !UC 1 r
theorem NNr.abv {r : List Gd} (h : NNr r) (hz : Nz r) : GU r = true /\ XN r = false := by simp [GU, XN, h.no, h.yes hz]
theorem NPr.blw {r : List Gd} (h : NPr r) (hz : Nz r) : GU r = false /\ XN r = true := by simp [GU, XN, h.no, h.yes hz]
def xC (ts : List T3) (n : Nat) : List Nat -> List Nat -> List Bool
 | _, [] => []
 | pre, s :: w => GU (yf (zf ts) pre (ye n s)) :: xC ts n (pre ++ [s]) w
def WX : List Bool -> Int
 | [] => 0
 | b :: l => (if b = true then 1 else -1) + WX l
theorem wx (ts : List T3) (n : Nat) : ∀ (w pre : List Nat), (xC ts n pre w).length = w.length
 | [], _ => rfl
 | s :: w, pre => by rw [xC, g0d, wx ts n w, g0d]
theorem X0 : ∀ l : List Bool, WX l <= l.length /\ (WX l = l.length ↔ l.all id = true) /\ (WX l - l.length) % 2 = 0
 | [] => by simp [WX]
 | b :: l => by
  obtain ⟨h1, h2, h3⟩ := X0 l
  cases b
  ·simp only [WX, g1o, if_false, g0d, List.all_cons, id, Bool.false_and, iff_false]
   refine ⟨by omega, by omega, by omega⟩
  ·simp only [WX, if_true, g0d, List.all_cons, id, Bool.true_and]
   refine ⟨by omega, ?_, by omega⟩
   rw [<- h2]
   omega
theorem XZ {ts : List T3} {n : Nat} (hg : xX ts) : ∀ (w pre : List Nat) {l l' : Nat}, InW n pre -> InW n w -> Lth ts n pre l -> Lth ts n (pre ++ w) l' -> (l' : Int) = l + WX (xC ts n pre w)
 | [], pre, l, l', hp, hw, h1, h2 => by
  rw [g0t] at h2
  have := h1.uniq h2
  simp [xC, WX, this]
 | s :: w, pre, l, l', hp, hw, h1, h2 => by
  have hs : s < n := hw s g0l
  have hw' : InW n w := fun i hi => hw i (g0o _ hi)
  have h2' : Lth ts n ((pre ++ [s]) ++ w) l' := by simpa using h2
  have nz := uU (ts := ts) hp hs
  rw [xC, WX]
  rcases x6 hg hp hs h1 with ⟨a, b⟩ | ⟨a, b, c⟩
  ·have ih := XZ hg w (pre ++ [s]) (hp.app (InW.one hs)) hw' b h2'
   rw [(a.abv nz).1, if_pos rfl]
   omega
  ·have ih := XZ hg w (pre ++ [s]) (hp.app (InW.one hs)) hw' c h2'
   rw [(a.blw nz).1]
   simp only [g1o, if_false]
   omega
theorem Kg {ts : List T3} {n : Nat} (hg : xX ts) {w : List Nat} (hw : InW n w) {l : Nat} (h : Lth ts n w l) : WX (xC ts n [] w) = l := by
 have := XZ hg w [] (fun i hi => by cases hi) hw Lth.nil (by rw [g0s]; exact h)
 omega
section
variable (ts : List T3) (n : Nat)
def qD (u : List Nat) : Option Nat := (g0u n).find? fun i => XN (yf (zf ts) u (ye n i))
inductive Lst : List Nat -> List Nat -> Prop
 | nil {u : List Nat} (h : qD ts n u = none) : Lst u []
 | cons {u v : List Nat} {i : Nat} (h : qD ts n u = some i) (t : Lst (u ++ [i]) v) : Lst u (i :: v)
end
variable {ts : List T3} {n : Nat}
theorem kH {u : List Nat} {i : Nat} (h : qD ts n u = some i) : i < n /\ XN (yf (zf ts) u (ye n i)) = true /\ ∀ j, j < i -> XN (yf (zf ts) u (ye n j)) = false := by
 unfold qD at h
 have h1 := List.mem_of_find?_eq_some h
 have h2 := List.find?_some h
 refine ⟨g1s.mp h1, h2, fun j hj => ?_⟩
 rw [List.find?_range_eq_some] at h
 have := h.2.2 j hj
 simpa using this
theorem Wp {u : List Nat} (h : qD ts n u = none) {i : Nat} (hi : i < n) : XN (yf (zf ts) u (ye n i)) = false := by
 unfold qD at h
 rw [List.find?_eq_none] at h
 have := h i (g1s.mpr hi)
 simpa using this
theorem Je {u : List Nat} {i : Nat} (hi : i < n) (h : XN (yf (zf ts) u (ye n i)) = true) : ∃ j, qD ts n u = some j := by
 cases e : qD ts n u with
 | some j => exact ⟨j, rfl⟩
 | none => rw [Wp e hi] at h; cases h
theorem Hj (hg : xX ts) : ∀ (l : Nat) {u : List Nat}, InW n u -> Lth ts n u l -> ∃ v, Lst ts n u v /\ v.length = l /\ InW n v /\ Eqv (zf ts) n (u ++ v) []
 | 0, u, hu, hl => by
  refine ⟨[], .nil ?_, rfl, (fun i hi => by cases hi), by rw [g0t]; exact hl.zero⟩
  unfold qD
  rw [List.find?_eq_none]
  intro i hi
  have hi' := g1s.mp hi
  rcases x6 hg hu hi' hl with ⟨a, _⟩ | ⟨_, b, _⟩
  ·rw [(a.abv (uU hu hi')).2]; decide
  ·omega
 | l + 1, u, hu, hl => by
  obtain ⟨s, hs, hp⟩ := U3 hg hu hl (by omega)
  obtain ⟨i, hi⟩ := Je hs (hp.blw (uU hu hs)).2
  obtain ⟨h1, h2, _⟩ := kH hi
  have hL : Lth ts n (u ++ [i]) l := by
   rcases x6 hg hu h1 hl with ⟨a, _⟩ | ⟨_, _, c⟩
   ·rw [(a.abv (uU hu h1)).2] at h2; cases h2
   ·exact c
  obtain ⟨v, v1, v2, v3, v4⟩ := Hj hg l (hu.app (InW.one h1)) hL
  refine ⟨i :: v, .cons hi v1, by rw [g0d, v2], v3.cons h1, ?_⟩
  rw [g1b] at v4
  exact v4
theorem Vl (hg : xX ts) {w : List Nat} (hw : InW n w) : ∃ (v : List Nat) (l : Nat), Lst ts n w.reverse v /\ InW n v /\ Eqv (zf ts) n v w /\ Lth ts n v l /\ v.length = l /\ l <= w.length := by
 obtain ⟨l, hl⟩ := Lth.ex (ts := ts) hw
 obtain ⟨v, v1, v2, v3, v4⟩ := Hj hg l hw.rev (hl.rev hw)
 have e : Eqv (zf ts) n v w := by
  have a1 : Eqv (zf ts) n (w ++ (w.reverse ++ v)) (w ++ []) := (Eqv.rfl' _).app v4
  have a2 : Eqv (zf ts) n ((w ++ w.reverse) ++ v) ([] ++ v) := (kI (zO ts) hw).app (Eqv.rfl' _)
  rw [g0t] at a1
  rw [g1b, g0s] at a2
  exact a2.symm.trans a1
 exact ⟨v, l, v1, v3, e, hl.cong e.symm, v2, hl.le hw (Eqv.rfl' _)⟩
end GH
namespace GH
theorem V3 {n i k : Nat} (c : Gd) (hk : k < n) : (rsc c (ye n i)).getD k (0, 0) = if k = i then c else (0, 0) := by
 rw [xo, xn hk]
 split
 ·exact jX c
 ·exact qA c
section
variable {ts : List T3} {n : Nat}
def Sh (ts : List T3) (n : Nat) (w : List Nat) : Prop := InW n w /\ Lth ts n w w.length
theorem Sh.cut {a b c : List Nat} (h : Sh ts n (a ++ b ++ c)) : Sh ts n b := by
 obtain ⟨h1, h2⟩ := h
 have hb : InW n b := h1.left.right
 obtain ⟨l, hl⟩ := Lth.ex (ts := ts) hb
 refine ⟨hb, ?_⟩
 have hl' := hl
 obtain ⟨v, v1, v2, v3⟩ := hl'
 have e : Eqv (zf ts) n (a ++ v ++ c) (a ++ b ++ c) := ((Eqv.rfl' _).app v2).app (Eqv.rfl' _)
 have := h2.le ((h1.left.left.app v1.1).app h1.right) e
 simp only [g0h] at this
 have h3 := hl.le hb (Eqv.rfl' _)
 have : l = b.length := by omega
 rw [<- this]
 exact hl
theorem Sh.rev {a : List Nat} (h : Sh ts n a) : Sh ts n a.reverse := ⟨h.1.rev, by rw [g2k]; exact h.2.rev h.1⟩
theorem Sh.up (hg : xX ts) {u : List Nat} {s : Nat} (h : Sh ts n (u ++ [s])) : NNr (yf (zf ts) u (ye n s)) := by
 have hs : s < n := h.1 s (by simp)
 have hu : Sh ts n u := Sh.cut (a := []) (c := [s]) (by simpa using h)
 rcases x6 hg hu.1 hs hu.2 with ⟨a, _⟩ | ⟨_, b, c⟩
 ·exact a
 ·have := c.uniq h.2
  simp only [g0h, g1h] at this
  omega
end
section
variable {ts : List T3} {n : Nat}
end
section
variable {ts : List T3} {n : Nat}
def kb (n m : Nat) (r : List Gd) : List Gd := (g0u n).map fun k => if k < m then r.getD k (0, 0) else (0, 0)
theorem yj (n m : Nat) (r : List Gd) : (kb n m r).length = n := by simp [kb]
theorem qv {n m : Nat} (r : List Gd) {k : Nat} (hk : k < n) : (kb n m r).getD k (0, 0) = if k < m then r.getD k (0, 0) else (0, 0) := by
 simp [kb, g0j, hk]
theorem Ub {n m : Nat} (hm : m < n) (r : List Gd) : kb n (m + 1) r = YF (kb n m r) (rsc (r.getD m (0, 0)) (ye n m)) := by
 have hl : (kb n m r).length = (rsc (r.getD m (0, 0)) (ye n m)).length := by rw [zG, zg, yj]
 apply vb (by rw [xp hl, yj, yj])
 intro k hk
 rw [yj] at hk
 rw [wA hl, qv r hk, qv r hk, V3 _ hk]
 by_cases c : k = m
 ·subst c
  simp [yz]
 ·by_cases c2 : k < m
  ·rw [if_pos (by omega), if_pos c2, if_neg c, xJ]
  ·rw [if_neg (by omega), if_neg c2, if_neg c, xJ]
theorem Qt {n : Nat} {r : List Gd} (h : r.length = n) : kb n n r = r := by
 apply vb (by rw [yj, h])
 intro k hk
 rw [yj] at hk
 rw [qv r hk, if_pos hk]
theorem Q7 (x y : Gd) : yD (yE x y) = yE (yD x) y := by
 simp only [yD, yE, Prod.mk.injEq]; constructor <;> grind
theorem Wd : nn (0, 0) := .inl rfl
theorem Fq {u : List Nat} (hu : InW n u) {r : List Gd} (hr : r.length = n) (hp : NPr r) (h : ∀ k, k < n -> r.getD k (0, 0) = (0, 0) \/ NNr (yf (zf ts) u (ye n k))) : NPr (yf (zf ts) u r) := by
 have main : ∀ m, m <= n -> NPr (yf (zf ts) u (kb n m r)) := by
  intro m
  induction m with
  | zero =>
   intro _ k
   have := Vk (ts := ts) (w := u) (r := kb n 0 r) (by rw [yj]; exact hu) (fun k => by
    by_cases hk : k < n
    ·rw [qv r hk, if_neg (by omega)]
    ·rw [g0j, g1t (by rw [yj]; omega)]; rfl) k
   rw [this]
   exact .inl rfl
  | succ m ih =>
   intro hm k
   have hl : (kb n m r).length = (rsc (r.getD m (0, 0)) (ye n m)).length := by rw [zG, zg, yj]
   rw [Ub (by omega) r, jW _ _ hl (by rw [yj]; exact hu), uo _ _ _ (by rw [zg]; exact hu), wA (by rw [zK, zG, zK, zg, yj]), xo, Q8]
   refine QG (ih (by omega) k) ?_
   rw [Q7]
   rcases h m (by omega) with z | z
   ·rw [z]
    have : yE (yD (0, 0)) ((yf (zf ts) u (ye n m)).getD k (0, 0)) = (0, 0) := by simp [yD, yE]
    rw [this]
    exact .inl rfl
   ·exact QF (hp m) (z k)
 have := main n (g0r _)
 rwa [Qt hr] at this
theorem Fs {u : List Nat} (hu : InW n u) {r : List Gd} (hr : r.length = n) (hp : NNr r) (h : ∀ k, k < n -> r.getD k (0, 0) = (0, 0) \/ NNr (yf (zf ts) u (ye n k))) : NNr (yf (zf ts) u r) := by
 have hneg : ∀ k, (rsc (-1, 0) r).getD k (0, 0) = yD (r.getD k (0, 0)) := fun k => by
  rw [xo]; simp [yE, yD]
 have h1 : NPr (yf (zf ts) u (rsc (-1, 0) r)) := Fq hu (by rw [zG, hr]) (fun k => by
  rw [hneg]
  have : yD (yD (r.getD k (0, 0))) = r.getD k (0, 0) := by simp [yD]
  rw [this]
  exact hp k) fun k hk => by
   rcases h k hk with z | z
   ·left
    rw [hneg, z]
    rfl
   ·exact .inr z
 rw [uo _ _ _ (by rw [hr]; exact hu)] at h1
 intro k
 have := h1 k
 rw [xo] at this
 have e : yD (yE (-1, 0) ((yf (zf ts) u r).getD k (0, 0))) = (yf (zf ts) u r).getD k (0, 0) := by simp [yE, yD]
 rwa [e] at this
theorem QO {k : Nat} : ∀ {w : List Nat} {r : List Gd}, InW r.length w -> k ∉ w -> (yf (zf ts) w r).getD k (0, 0) = r.getD k (0, 0)
 | [], r, _, _ => rfl
 | i :: w, r, hw, hk => by
  have hw' : InW r.length w := fun j hj => hw j (g0o _ hj)
  have hi : i < r.length := hw i g0l
  rw [xl, xZ _ (by rw [zK]; exact hi), if_neg (fun c => hk (by rw [c]; exact g0l))]
  exact QO hw' fun c => hk (g0o _ c)
theorem Wc {w : List Nat} (hw : InW n w) {i : Nat} (hi : i < n) (h : i ∉ w) : XN (yf (zf ts) w (ye n i)) = false := by
 have e := QO (ts := ts) (w := w) (r := ye n i) (by rw [zg]; exact hw) h
 rw [xn hi, if_pos rfl] at e
 have : UC 1 (yf (zf ts) w (ye n i)) = true := Wl (k := i) (by rw [zK, zg]; exact hi) (by rw [e]; decide)
 simp [XN, this]
theorem Lst.sub {P : Nat -> Prop} {u v : List Nat} (h : Lst ts n u v) : InW n u -> (∀ i ∈ u, P i) -> ∀ i ∈ v, P i := by
 induction h with
 | nil _ => intro _ _ i hi; cases hi
 | @cons u v i h t ih =>
  intro hu hp j hj
  obtain ⟨hi, hb, _⟩ := kH h
  have hm : i ∈ u := by
   apply Classical.byContradiction
   intro c
   rw [Wc hu hi c] at hb
   cases hb
  rcases g0n.mp hj with rfl | hj
  ·exact hp _ hm
  ·refine ih (hu.app (InW.one hi)) (fun k hk => ?_) j hj
   rcases g1l.mp hk with hk | hk
   ·exact hp k hk
   ·rw [List.mem_singleton.mp hk]; exact hp _ hm
def UD (ts : List T3) (n : Nat) (part u : List Nat) : List Nat := part.filter fun i => XN (yf (zf ts) u (ye n i))
inductive Rm (ts : List T3) (n : Nat) (part : List Nat) : List Nat -> List Nat -> Prop
 | nil {u : List Nat} (h : UD ts n part u = []) : Rm ts n part u []
 | cons {u s : List Nat} {i : Nat} {r : List Nat} (h : UD ts n part u = i :: r) (t : Rm ts n part (u ++ [i]) s) : Rm ts n part u (i :: s)
theorem Xj {part u : List Nat} {i : Nat} : i ∈ UD ts n part u ↔ i ∈ part /\ XN (yf (zf ts) u (ye n i)) = true := by
 simp [UD]
variable (hg : xX ts)
include hg
theorem Mp {w : List Nat} (hw : InW n w) {s : Nat} (hs : s < n) (h : XN (yf (zf ts) w (ye n s)) = true) : NPr (yf (zf ts) w (ye n s)) := by
 rcases W4 hg hw hs with c | c
 ·rw [(c.abv (uU hw hs)).2] at h; cases h
 ·exact c
theorem BK {w : List Nat} (hw : InW n w) {s : Nat} (hs : s < n) (h : XN (yf (zf ts) w (ye n s)) = false) : NNr (yf (zf ts) w (ye n s)) := by
 rcases W4 hg hw hs with c | c
 ·exact c
 ·rw [(c.blw (uU hw hs)).2] at h; cases h
theorem Dw {part : List Nat} (hp : InW n part) : ∀ (l : Nat) {u : List Nat}, InW n u -> Lth ts n u l -> ∃ s k, Rm ts n part u s /\ s.length + k = l /\ (∀ i ∈ s, i ∈ part) /\ Lth ts n (u ++ s) k /\ ∀ i ∈ part, NNr (yf (zf ts) (u ++ s) (ye n i))
 | l, u, hu, hl => by
  cases e : UD ts n part u with
  | nil =>
   refine ⟨[], l, .nil e, by simp, (fun i hi => by cases hi), by rw [g0t]; exact hl, fun i hi => ?_⟩
   rw [g0t]
   refine BK hg hu (hp i hi) ?_
   cases c : XN (yf (zf ts) u (ye n i)) with
   | false => rfl
   | true =>
    have := Xj.mpr ⟨hi, c⟩
    rw [e] at this
    cases this
  | cons i r =>
   have hm : i ∈ UD ts n part u := by rw [e]; exact g0l
   obtain ⟨h1, h2⟩ := Xj.mp hm
   have hi := hp i h1
   have hn := Mp hg hu hi h2
   rcases x6 hg hu hi hl with ⟨c, _⟩ | ⟨_, c2, c3⟩
   ·exact absurd hn (c.notP (uU hu hi))
   ·have hlt : l - 1 < l := by omega
    obtain ⟨s, k, a1, a2, a3, a4, a5⟩ := Dw hp (l - 1) (hu.app (InW.one hi)) c3
    refine ⟨i :: s, k, .cons e a1, by rw [g0d]; omega, fun j hj => ?_, ?_, ?_⟩
    ·rcases g0n.mp hj with rfl | hj
     ·exact h1
     ·exact a3 j hj
    ·rwa [g1b, g1u] at a4
    ·rwa [g1b, g1u] at a5
theorem HX {part : List Nat} (hp : InW n part) {w : List Nat} (hw : InW n w) : ∃ s o i, Rm ts n part w s /\ s.length <= w.length /\ (∀ x ∈ s, x ∈ part) /\ Lst ts n (w ++ s).reverse o /\ Lst ts n s.reverse.reverse i /\ InW n o /\ InW n i /\ (∀ x ∈ i, x ∈ part) ∧
  Eqv (zf ts) n (o ++ i) w /\ Lth ts n (o ++ i) (o ++ i).length /\ (∀ x ∈ part, NNr (yf (zf ts) o (ye n x))) /\ (o ++ i).length <= w.length /\ Eqv (zf ts) n o (w ++ s) /\ Eqv (zf ts) n i s.reverse /\ (∀ x ∈ part, NNr (yf (zf ts) (w ++ s) (ye n x))) := by
 have h2 := zO ts
 obtain ⟨l, hl⟩ := Lth.ex (ts := ts) hw
 obtain ⟨s, k, a1, a2, a3, a4, a5⟩ := Dw hg hp l hw hl
 have hs : InW n s := fun x hx => hp x (a3 x hx)
 obtain ⟨o, lo, o1, o2, o3, o4, o5, o6⟩ := Vl hg (hw.app hs)
 obtain ⟨i, li, i1, i2, i3, i4, i5, i6⟩ := Vl hg hs.rev
 have e : Eqv (zf ts) n (o ++ i) w := by
  have := o3.app i3
  rw [g1b] at this
  exact this.trans (((Eqv.rfl' w).app (kI h2 hs)).trans (by rw [g0t]; exact Eqv.rfl' _))
 have hlw := hl.le hw (Eqv.rfl' _)
 have hlo : lo = k := (o4.cong o3).uniq a4
 have hle := hl.le (o2.app i2) e
 rw [g0h] at hle
 rw [g2k] at i6
 have hi : ∀ x ∈ i, x ∈ part := i1.sub (by rw [g2f]; exact hs) (by rw [g2f]; exact a3)
 refine ⟨s, o, i, a1, by omega, a3, o1, i1, o2, i2, hi, e, ?_, fun x hx => ?_, by rw [g0h]; omega, o3, i3, a5⟩
 ·have : (o ++ i).length = l := by rw [g0h]; omega
  rw [this]
  exact hl.cong e.symm
 ·rw [o3 _ (zg n x)]
  exact a5 x hx
end
section
variable {ts : List T3} {n : Nat}
end
section
variable {ts : List T3} {n : Nat}
variable (hg : xX ts)
include hg
theorem BG {u : List Nat} (hu : InW n u) {s : Nat} (hs : s < n) (h : NNr (yf (zf ts) u (ye n s))) : NPr (yf (zf ts) (u ++ [s]) (ye n s)) := fun k => by
 rw [QP hu hs k]
 have : yD (yD ((yf (zf ts) u (ye n s)).getD k (0, 0))) = (yf (zf ts) u (ye n s)).getD k (0, 0) := by simp [yD]
 rw [this]
 exact h k
theorem BH {u v : List Nat} (e : Eqv (zf ts) n u v) {s : Nat} (h : NPr (yf (zf ts) u (ye n s))) : NPr (yf (zf ts) v (ye n s)) := by
 rw [<- e _ (zg n s)]; exact h
end
theorem Kp (s t : Nat) (b : Bool) : sel t s b = sel s t (!b) := by cases b <;> rfl
theorem Yn (s t : Nat) (l : List Bool) : l.map (sel t s) = (l.map (!·)).map (sel s t) := by
 rw [g1d]
 apply g1z
 intro b _
 exact Kp s t b
section
variable {ts : List T3} {n : Nat}
theorem G0 {s t : Nat} (hs : s < n) (ht : t < n) (l : List Bool) : InW n (l.map (sel s t)) := fun i hi => by
 obtain ⟨b, _, rfl⟩ := g1r.mp hi
 cases b <;> simp [sel] <;> assumption
theorem Vb {s t : Nat} (hs : s < n) (ht : t < n) (x y : List Bool) (b : Bool) : Eqv (zf ts) n ((x ++ y).map (sel s t)) ((x ++ b :: b :: y).map (sel s t)) := by
 rw [g1f, g1f]
 refine (Eqv.rfl' _).app ?_
 have hb : sel s t b < n := G0 hs ht [b] _ (by simp)
 have := (Eqv.twice (n := n) (zO ts) hb).symm.app (Eqv.rfl' (A := zf ts) (y.map (sel s t)))
 simpa using this
theorem GT {s t : Nat} (hst : s ≠ t) (hs : s < n) (ht : t < n) {m : Nat} (em : zi ts s t = (m : Int)) (hm : 2 <= m /\ m <= 6) : Eqv (zf ts) n ((alt m).map (sel s t)) ((alt m).map (sel t s)) := by
 have h2 := zO ts
 obtain ⟨p1, p2⟩ := Yb ts hst
 rw [em] at p1 p2
 obtain ⟨b1, b2⟩ := kR (decide (s < t)) hm
 rw [<- p1, <- p2] at b1 b2
 rw [Yn s t]
 exact qE (n := n) hst (h2 s) (h2 t) hs ht b1 b2
theorem Hx {s t : Nat} (hst : s ≠ t) (hs : s < n) (ht : t < n) {m k : Nat} (em : zi ts s t = (m : Int)) (hm : 2 <= m /\ m <= 6) (h : Sh ts n ((alt k).map (sel s t))) : k <= m := by
 apply Nat.not_lt.mp
 intro hlt
 obtain ⟨pre, e⟩ := kX (m := m + 1) (k := k) (by omega)
 obtain ⟨j, rfl⟩ : ∃ j, m = j + 1 := ⟨m - 1, by omega⟩
 have e1 : (alt (j + 1)).map (!·) = decide ((j + 1) % 2 = 1) :: (alt j).map (!·) := by
  rw [alt, g0f]
  congr 1
  by_cases c : j % 2 = 1
  ·have c2 : ¬ ((j + 1) % 2 = 1) := by omega
   simp [c, c2]
  ·have c2 : (j + 1) % 2 = 1 := by omega
   simp [c, c2]
 have br := GT (ts := ts) (n := n) hst hs ht em hm
 rw [Yn s t, e1] at br
 have e2 : Eqv (zf ts) n ((pre ++ (alt j).map (!·)).map (sel s t)) ((alt k).map (sel s t)) := by
  rw [e, alt]
  refine (Vb hs ht pre ((alt j).map (!·)) (decide ((j + 1) % 2 = 1))).trans ?_
  rw [g1f, g1f, g0f, g0f (l := alt (j + 1))]
  refine (Eqv.rfl' _).app ?_
  exact (Eqv.rfl' [sel s t (decide ((j + 1) % 2 = 1))]).app br.symm
 have := h.2.le (G0 hs ht _) e2
 have hk := congrArg List.length e
 rw [g0h, xV, xV] at hk
 simp only [g0k, g0h, xV] at this
 omega
variable (hg : xX ts)
include hg
theorem CO {s t : Nat} (hst : s ≠ t) (hs : s < n) (ht : t < n) {o : List Nat} {k : Nat} (h : Sh ts n (o ++ (alt k).map (sel s t))) (h1 : NNr (yf (zf ts) o (ye n s))) (h2 : NNr (yf (zf ts) o (ye n t))) (hd : NPr (yf (zf ts) (o ++ (alt k).map (sel s t)) (ye n s))) : ∃ m : Nat, zi ts s t = (m : Int) /\ (2 <= m /\ m <= 6) /\ k = m := by
 have hp2 := zO ts
 have ho : InW n o := h.1.left
 have hsi : Sh ts n ((alt k).map (sel s t)) := Sh.cut (a := o) (b := (alt k).map (sel s t)) (c := []) (by simpa using h)
 obtain ⟨p1, p2⟩ := Yb ts hst
 have no : ¬ PQ (pqA (zf ts s t) (zf ts t s) k) := fun hpq => by
  have le := Wh hst (hp2 s) (hp2 t) hs ht k
  have hnn : NNr (yf (zf ts) (o ++ (alt k).map (sel s t)) (ye n s)) := by
   rw [y7, le]
   refine Fs ho (yw _ _ _ _ _) (fun j => ?_) fun j hj => ?_
   ·by_cases hj : j < n
    ·rw [wD _ _ hj]
     refine QG ?_ ?_
     ·split
      ·exact hpq.1
      ·exact Wd
     ·split
      ·exact hpq.2.1
      ·exact Wd
    ·rw [g0j, g1t (by rw [yw]; omega)]
     exact Wd
   ·by_cases c1 : j = s
    ·subst c1; exact .inr h1
    ·by_cases c2 : j = t
     ·subst c2; exact .inr h2
     ·left
      rw [wD _ _ hj, if_neg c1, if_neg c2, xJ]
  exact hnn.notP (uU h.1 hs) hd
 rcases yT hg (s : Int) (t : Int) with g0 | gt
 ·rw [g0] at p1 p2
  have q1 : zH 0 (decide (s < t)) = (-2, 0) := by cases decide (s < t) <;> rfl
  have q2 : zH 0 (!decide (s < t)) = (-2, 0) := by cases decide (s < t) <;> rfl
  rw [p1, p2, q1, q2] at no
  exact absurd (ka k) no
 ·obtain ⟨m, em⟩ : ∃ m : Nat, zi ts s t = (m : Int) := ⟨(zi ts s t).toNat, by omega⟩
  rw [em] at p1 p2 gt
  have hm : 2 <= m /\ m <= 6 := by omega
  refine ⟨m, em, hm, Nat.le_antisymm (Hx hst hs ht em hm hsi) (Nat.not_lt.mp fun hlt => ?_)⟩
  rw [p1, p2] at no
  exact no (Hb _ hm hlt)
theorem J9 {v : List Nat} (hv : Sh ts n v) {s t : Nat} (hst : s ≠ t) (hs : s < n) (ht : t < n) (d1 : NPr (yf (zf ts) v (ye n s))) (d2 : NPr (yf (zf ts) v (ye n t))) :
  ∃ (c : List Nat) (m : Nat), zi ts s t = (m : Int) /\ (2 <= m /\ m <= 6) /\ InW n c /\ Sh ts n (c ++ (alt m).map (sel s t)) /\ Eqv (zf ts) n (c ++ (alt m).map (sel s t)) v /\ Sh ts n (c ++ (alt m).map (sel t s)) /\ Eqv (zf ts) n (c ++ (alt m).map (sel t s)) v := by
 have hp2 := zO ts
 obtain ⟨_, o, i, _, _, _, _, _, r6, r7, r8, r9, r10, r11, _, _, _, _⟩ := HX hg (part := [s, t]) (fun x hx => by
  have : x = s \/ x = t := by simpa using hx
  rcases this with rfl | rfl <;> assumption) hv.1
 have os := r11 s (by simp)
 have ot := r11 t (by simp)
 have hsh : Sh ts n (o ++ i) := ⟨r6.app r7, r10⟩
 have hi : Sh ts n i := Sh.cut (a := o) (b := i) (c := []) (by simpa using hsh)
 obtain ⟨a, ha⟩ : ∃ a : List Bool, i = a.map (sel s t) := ⟨i.map fun x => decide (x = s), by
  rw [g1d]
  have : i.map (sel s t ∘ fun x => decide (x = s)) = i.map id := by
   apply g1z
   intro x hx
   have : x = s \/ x = t := by simpa using r8 x hx
   rcases this with rfl | rfl
   ·simp [sel]
   ·simp [sel, Ne.symm hst]
  rw [this, List.map_id]⟩
 subst ha
 have a1 : ∀ x b y, a ≠ x ++ b :: b :: y := fun x b y e => by
  have := hi.2.le (G0 hs ht (x ++ y)) (by rw [e]; exact Vb hs ht x y b)
  rw [e] at this
  simp only [g0k, g0h, g0d] at this
  omega
 have fin : ∀ {s t : Nat}, s ≠ t -> s < n -> t < n -> NPr (yf (zf ts) v (ye n s)) -> NNr (yf (zf ts) o (ye n s)) -> NNr (yf (zf ts) o (ye n t)) -> ∀ k, Sh ts n (o ++ (alt k).map (sel s t)) -> Eqv (zf ts) n (o ++ (alt k).map (sel s t)) v →
   ∃ m : Nat, zi ts s t = (m : Int) /\ (2 <= m /\ m <= 6) /\ Sh ts n (o ++ (alt m).map (sel s t)) /\ Eqv (zf ts) n (o ++ (alt m).map (sel s t)) v /\ Sh ts n (o ++ (alt m).map (sel t s)) /\ Eqv (zf ts) n (o ++ (alt m).map (sel t s)) v := by
  intro s t hst hs ht d1 os ot k h1 h2
  obtain ⟨m, em, hm, rfl⟩ := CO hg hst hs ht h1 os ot (by rw [h2 _ (zg n s)]; exact d1)
  have br := (Eqv.rfl' (A := zf ts) (n := n) o).app (GT (ts := ts) (n := n) hst hs ht em hm)
  refine ⟨k, em, hm, h1, h2, ⟨r6.app (G0 ht hs _), ?_⟩, br.symm.trans h2⟩
  have l : (o ++ (alt k).map (sel t s)).length = (o ++ (alt k).map (sel s t)).length := by simp
  rw [l]
  exact h1.2.cong br
 by_cases c : ∃ x, a = x ++ [true]
 ·obtain ⟨x, hx⟩ := c
  have e : a.map (!·) = alt (a.map (!·)).length := VM _ (fun x b y e => by
   have e2 := congrArg (List.map (!·)) e
   rw [g1d] at e2
   have e3 : (a.map ((!·) ∘ (!·))) = a := by
    have : ((fun b : Bool => !b) ∘ fun b => !b) = id := by funext b; simp
    rw [this, List.map_id]
   rw [e3] at e2
   exact a1 (x.map (!·)) (!b) (y.map (!·)) (by simpa using e2)) (fun y e => by
   have e2 := congrArg List.getLast? e
   rw [hx] at e2
   simp at e2)
  have e4 : a.map (sel s t) = (alt (a.map (!·)).length).map (sel t s) := by
   rw [<- e, Yn t s, g1d]
  rw [e4] at hsh r9
  obtain ⟨m, em, hm, g1, g2, g3, g4⟩ := fin (Ne.symm hst) ht hs d2 ot os _ hsh r9
  exact ⟨o, m, by rw [vg]; exact em, hm, r6, g3, g4, g1, g2⟩
 ·have e := VM a a1 fun x e => c ⟨x, e⟩
  rw [e] at hsh r9
  obtain ⟨m, em, hm, g1, g2, g3, g4⟩ := fin hst hs ht d1 os ot _ hsh r9
  exact ⟨o, m, em, hm, r6, g1, g2, g3, g4⟩
theorem Xb {a : List Nat} {s : Nat} (h : Sh ts n (a ++ [s])) : NPr (yf (zf ts) (a ++ [s]) (ye n s)) := BG hg h.1.left (h.1 s (by simp)) (Sh.up hg h)
end
def vf (i j m : Nat) : List Nat := (g0u m).map fun k => if k % 2 = 0 then i else j
theorem xW (i j m : Nat) : (vf i j m).length = m := by simp [vf]
theorem JT (i j : Nat) {k m : Nat} (h : k <= m) : (vf i j m).take k = vf i j k := by
 unfold vf
 rw [<- List.map_take, List.take_range, Nat.min_eq_left h]
theorem JS : ∀ m, (alt m).reverse = (g0u m).map fun k => decide (k % 2 = 1)
 | 0 => rfl
 | m + 1 => by
  rw [alt, g2o, JS m, g3i, g1f]
  rfl
theorem uO (s t m : Nat) : ((alt m).map (sel s t)).reverse = vf t s m := by
 rw [<- List.map_reverse, JS, g1d]
 unfold vf
 apply g1z
 intro k _
 simp only [Function.comp, sel]
 by_cases c : k % 2 = 1
 ·have : ¬ (k % 2 = 0) := by omega
  simp [c]
 ·have c2 : k % 2 = 0 := by omega
  simp [c2]
section
variable {ts : List T3} {n : Nat}
def Dn (ts : List T3) (n : Nat) (s : List Nat) (t : Nat) : Prop := ∃ r, InW n r /\ Eqv (zf ts) n (t :: r) s /\ r.length + 1 = s.length
theorem Sh.of {s u : List Nat} (h : Sh ts n s) (hu : InW n u) (e : Eqv (zf ts) n u s) (hl : u.length = s.length) : Sh ts n u := ⟨hu, by rw [hl]; exact h.2.cong e.symm⟩
theorem GA {x a b : List Nat} (hx : InW n x) (e : Eqv (zf ts) n (x ++ a) (x ++ b)) : Eqv (zf ts) n a b := by
 have h2 := zO ts
 have k : ∀ y : List Nat, Eqv (zf ts) n (x.reverse ++ (x ++ y)) y := fun y => by
  have := (Yr h2 hx).app (Eqv.rfl' (A := zf ts) (n := n) y)
  rw [g1b] at this
  exact this
 exact (k a).symm.trans (((Eqv.rfl' x.reverse).app e).trans (k b))
theorem kY {i j : Nat} (hi : i < n) (hj : j < n) (m : Nat) : InW n (vf i j m) := fun k hk => by
 obtain ⟨a, _, rfl⟩ := g1r.mp hk
 split <;> assumption
variable (hg : xX ts)
include hg
theorem Dn.np {s : List Nat} {t : Nat} (hs : Sh ts n s) (ht : t < n) (h : Dn ts n s t) : NPr (yf (zf ts) s.reverse (ye n t)) := by
 obtain ⟨r, h1, h2, h3⟩ := h
 have hr : Sh ts n (t :: r) := hs.of (InW.cons ht h1) h2 (by simpa using h3)
 have h4 := hr.rev
 rw [g2o] at h4
 have h5 := Xb hg h4
 refine BH hg ?_ h5
 have := Eqv.rev (zO ts) hr.1 hs.1 h2
 rw [g2o] at this
 exact this
theorem J8 {s : List Nat} (hs : Sh ts n s) {f t : Nat} (hft : f ≠ t) (hf : f < n) (ht : t < n) (d1 : Dn ts n s f) (d2 : Dn ts n s t) :
  ∃ (c : List Nat) (m : Nat), zi ts f t = (m : Int) /\ (2 <= m /\ m <= 6) /\ InW n c /\ Eqv (zf ts) n (vf f t m ++ c) s /\ Eqv (zf ts) n (vf f t m) (vf t f m) /\ m + c.length = s.length := by
 obtain ⟨c, m, em, hm, hc, g1, g2, g3, g4⟩ := J9 hg hs.rev (Ne.symm hft) ht hf (d2.np hg hs ht) (d1.np hg hs hf)
 have em' : zi ts f t = (m : Int) := by rw [vg]; exact em
 have e1 := Eqv.rev (zO ts) g1.1 hs.1.rev g2
 rw [g2q, uO, g2f] at e1
 have br := GT (ts := ts) (n := n) (Ne.symm hft) ht hf em hm
 have e2 := Eqv.rev (zO ts) (G0 ht hf _) (G0 hf ht _) br
 rw [uO, uO] at e2
 refine ⟨c.reverse, m, em', hm, hc.rev, e1, e2, ?_⟩
 have l1 := g1.2.uniq (hs.rev.2.cong g2.symm)
 simp only [g0h, g0k, xV, g2k] at l1 ⊢
 omega
omit hg in
theorem Dn.head {f : Nat} {r : List Nat} (h : InW n (f :: r)) : Dn ts n (f :: r) f := ⟨r, fun x hx => h x (g0o _ hx), Eqv.rfl' _, rfl⟩
theorem Ga {s c x : List Nat} (hs : Sh ts n s) {f t m k : Nat} (hf : f < n) (ht : t < n) (hk : k < m) (hc : InW n c) (e : Eqv (zf ts) n (vf f t m ++ c) s) (hl : m + c.length = s.length) (hx : InW n x) (ex : Eqv (zf ts) n (vf f t k ++ x) s) (hxl : k + x.length = s.length) :
  Sh ts n x /\ Dn ts n x (if k % 2 = 0 then f else t) := by
 have ha := kY hf ht (n := n) k
 have h1 : Sh ts n (vf f t k ++ x) := hs.of (ha.app hx) ex (by rw [g0h, xW]; exact hxl)
 have h2 : Sh ts n x := Sh.cut (a := vf f t k) (b := x) (c := []) (by simpa using h1)
 refine ⟨h2, ?_⟩
 have e1 : vf f t m = vf f t k ++ (vf f t m).drop k := by
  rw [<- JT f t (g3b hk), List.take_append_drop]
 have e2 : (vf f t m).drop k = (if k % 2 = 0 then f else t) :: (vf f t m).drop (k + 1) := by
  rw [g2l (by rw [xW]; exact hk)]
  congr 1
  simp [vf]
 have e3 : Eqv (zf ts) n (vf f t k ++ x) (vf f t k ++ ((vf f t m).drop k ++ c)) := by
  rw [<- g1b, <- e1]
  exact ex.trans e.symm
 have e4 := GA ha e3
 rw [e2] at e4
 refine ⟨(vf f t m).drop (k + 1) ++ c, ?_, e4.symm, ?_⟩
 ·exact InW.app (fun y hy => kY hf ht m y (List.mem_of_mem_drop hy)) hc
 ·rw [g0h, List.length_drop, xW]
  omega
theorem QC {s : List Nat} (hs : Sh ts n s) {a : Nat} (ha : a < n) (h : ¬ Sh ts n (a :: s)) : Dn ts n s a := by
 have h2 := zO ts
 have hl := hs.2.rev hs.1
 rcases x6 hg hs.1.rev ha hl with ⟨_, k⟩ | ⟨_, k0, k⟩
 ·exfalso
  apply h
  have hw : InW n (s.reverse ++ [a]) := hs.1.rev.app (InW.one ha)
  have := k.rev hw
  rw [g2q, g2f] at this
  exact ⟨InW.cons ha hs.1, this⟩
 ·have hw : InW n (s.reverse ++ [a]) := hs.1.rev.app (InW.one ha)
  have := k.rev hw
  rw [g2q, g2f] at this
  obtain ⟨u, u1, u2, u3⟩ := this
  refine ⟨u, u1.1, ?_, by omega⟩
  have e : Eqv (zf ts) n ([a] ++ u) ([a] ++ ([a] ++ s)) := (Eqv.rfl' [a]).app u2
  have e2 : Eqv (zf ts) n ([a, a] ++ s) ([] ++ s) := (Eqv.twice h2 ha).app (Eqv.rfl' s)
  exact e.trans e2
theorem YO {w : List Nat} (hw : InW n w) : (xC ts n [] w).all id = true ↔ Sh ts n w := by
 obtain ⟨l, hl⟩ := Lth.ex (ts := ts) hw
 have h1 := Kg hg hw hl
 obtain ⟨h2, h3, h4⟩ := X0 (xC ts n [] w)
 rw [wx] at h3
 rw [<- h3, h1]
 constructor
 ·intro e
  have : l = w.length := by omega
  subst this
  exact ⟨hw, hl⟩
 ·intro h
  have := hl.uniq h.2
  omega
end
def nbM (t : Int -> Int -> Int) (x : Int) (os : List Int) : List Int := os.filter fun o => decide (o ≠ x) && decide (t x o ≠ 2)
def woM (os : List Int) (x : Int) : List Int := os.filter fun o => decide (o ≠ x)
def chG (t : Int -> Int -> Int) : Nat -> Int -> List Int -> Option (List Int)
 | 0, _, _ => some []
 | n + 1, x, left => if left = [] then some [] else match nbM t x left with
  | [y] => (chG t n y (woM left y)).map (y :: ·)
  | _ => none
def uc (t : Int -> Int -> Int) (ms : List Int) (f : Int) : Option (List Int) := (chG t ms.length f (woM ms f)).map (f :: ·)
def xu (t : Int -> Int -> Int) (ms : List Int) : List (List Int) := ms.filterMap (uc t ms)
def vN (t : Int -> Int -> Int) (o : List Int) : List Int := List.zipWith t o (o.drop 1)
abbrev Kd := Nat × Nat
def CY (ts : List Int) : Kd :=
 if ts = g0e ts.length 3 then (1, ts.length + 1)
 else if ts = g0e (ts.length - 1) 3 ++ [4] then (2, ts.length + 1)
 else if ts = [3, 4, 3] then (6, 4) else if ts = [3, 5] then (8, 3) else if ts = [3, 3, 5] then (8, 4)
 else if ts = [5] then (9, 5) else if ts = [6] then (9, 6) else (0, 0)
def Wi (o : List Int) (y : Int) : Kd :=
 if 4 <= o.length + 1 /\ o[1]? = some y then (4, o.length + 1) else if o.length + 1 = 6 /\ o[2]? = some y then (5, 6) else (0, 0)
def Gj (t : Int -> Int -> Int) (ms : List Int) : List Kd := (xu t ms).map fun o => CY (vN t o)
def Hm (t : Int -> Int -> Int) (ms : List Int) : List Kd := ms.flatMap fun e => match nbM t e ms with
 | [y] => (xu t (woM ms e)).map fun o => Wi o y
 | _ => []
def jf (t : Int -> Int -> Int) (three : Bool) (ms : List Int) : List Kd := Gj t ms ++ if three then Hm t ms else []
section
variable {t t' : Int -> Int -> Int} {φ : Int -> Int} {S : List Int}
theorem BL {x y : Int} {l : List Int} (h : y ∈ nbM t x l) : y ∈ l := (g1q.mp h).1
end
def kO (ts : List Int) : List T3 := (List.zip (g0u ts.length) ts).map fun p => ((p.1 : Int), (p.1 : Int) + 1, p.2)
def r3 (n : Nat) : List Int := g0e n 3
abbrev Bk := Kd × List T3
def idx (n : Nat) : List Int := (g0u n).map fun (i : Nat) => (i : Int)
abbrev Blk := Nat × Bk
abbrev Hit (i j : Int) (u : T3) : Prop := u.1 = mlo i j /\ u.2.1 = mhi i j
theorem Z0 {i j : Int} : ∀ {ts : List T3}, (∀ u ∈ ts, ¬ Hit i j u) -> zi ts i j = 2
 | [], _ => rfl
 | u :: ts, h => by
  unfold zi
  rw [if_neg (h u g0l), Z0 fun v hv => h v (g0o _ hv)]
theorem XW {i j : Int} {b : List T3} (hb : ∀ u ∈ b, ¬ Hit i j u) : ∀ {a : List T3}, zi (a ++ b) i j = zi a i j
 | [] => Z0 hb
 | u :: a => by
  rw [g0v]
  unfold zi
  rw [XW hb]
def In (p : Int × Blk) (x : Int) : Prop := p.1 <= x /\ x < p.1 + p.2.1
theorem y6 {n : Nat} {i : Int} : i ∈ idx n ↔ 0 <= i /\ i < n := by
 unfold idx
 rw [g1r]
 constructor
 ·rintro ⟨k, hk, rfl⟩
  have := g1s.mp hk
  omega
 ·rintro ⟨h1, h2⟩
  exact ⟨i.toNat, g1s.mpr (by omega), by omega⟩
theorem um (n : Nat) : (idx n).Nodup := by
 unfold idx List.Nodup
 rw [List.pairwise_map]
 exact List.nodup_range.imp fun h e => h (by omega)
section
variable {bs : List Blk} {σ : Int -> Int} {p : Int × Blk}
def XY (ts : List T3) (ms : List Int) : Bool := (ts.filter fun u => decide (u.1 ∈ ms)).all fun u => decide (u.2.2 = 3)
end
def YG (t : Int -> Int -> Int) : Nat -> List Int -> List Int -> Nat -> List Int
 | 0, part, _, _ => part
 | n + 1, part, left, p => match part[p]? with
  | none => part
  | some x => YG t n (part ++ nbM t x left) (left.filter fun o => decide (o ∉ nbM t x left)) (p + 1)
theorem VI {t : Int -> Int -> Int} {R S : List Int} (hR : R.Nodup) (hS : ∀ x ∈ S, ∀ y ∈ R, y ∉ S -> t x y = 2) :
  ∀ (n : Nat) (part left : List Int) (p : Nat), (part ++ left).Perm R -> (∀ x ∈ part, x ∈ S) -> (∀ q, q < p -> ∀ x, part[q]? = some x -> ∀ y ∈ left, t x y = 2) -> R.length <= n + p →
   (∀ x ∈ part, x ∈ YG t n part left p) /\ (YG t n part left p).Nodup /\ (∀ x ∈ YG t n part left p, x ∈ S) /\ ∀ x ∈ YG t n part left p, ∀ y ∈ R, y ∉ YG t n part left p -> t x y = 2
 | n, part, left, p, h1, h2, h3, h4 => by
  have hn : (part ++ left).Nodup := h1.nodup_iff.mpr hR
  have hl := h1.length_eq
  rw [g0h] at hl
  have stop : part.length <= p -> (∀ x ∈ part, x ∈ part) /\ part.Nodup /\ (∀ x ∈ part, x ∈ S) /\ ∀ x ∈ part, ∀ y ∈ R, y ∉ part -> t x y = 2 := fun hp => by
   refine ⟨fun _ h => h, (List.nodup_append.mp hn).1, h2, fun x hx y hy hy' => ?_⟩
   obtain ⟨q, hq, e⟩ := List.mem_iff_getElem.mp hx
   refine h3 q (by omega) x (by rw [g1i hq, e]) y ?_
   rcases g1l.mp (h1.mem_iff.mpr hy) with z | z
   ·exact absurd z hy'
   ·exact z
  cases n with
  | zero => exact stop (by omega)
  | succ n =>
   unfold YG
   cases e : part[p]? with
   | none => exact stop (List.getElem?_eq_none_iff.mp e)
   | some x =>
    have hx : x ∈ part := g2m e
    have hf : ∀ o ∈ left, (decide (o ∉ nbM t x left)) = !(decide (o ≠ x) && decide (t x o ≠ 2)) := fun o ho => by
     have : o ∈ nbM t x left ↔ (decide (o ≠ x) && decide (t x o ≠ 2)) = true := by
      unfold nbM; rw [g1q]; exact ⟨fun z => z.2, fun z => ⟨ho, z⟩⟩
     cases c : (decide (o ≠ x) && decide (t x o ≠ 2)) with
     | true => rw [c] at this; simpa using this
     | false => rw [c] at this; simpa using this
    have hp' : ((part ++ nbM t x left) ++ left.filter fun o => decide (o ∉ nbM t x left)).Perm R := by
     rw [g1b]
     refine (List.Perm.append_left part ?_).trans h1
     rw [List.filter_congr hf]
     exact List.filter_append_perm _ _
    have hsub : ∀ y ∈ nbM t x left, y ∈ S := fun y hy => by
     unfold nbM at hy
     obtain ⟨hy, hd⟩ := g1q.mp hy
     rw [g2a] at hd
     refine Classical.byContradiction fun z => of_decide_eq_true hd.2 (hS x (h2 x hx) y (h1.mem_iff.mp (g0q _ hy)) z)
    obtain ⟨a1, a2, a3, a4⟩ := VI hR hS n (part ++ nbM t x left) (left.filter fun o => decide (o ∉ nbM t x left)) (p + 1) hp' (fun y hy => (g1l.mp hy).elim (h2 y) (hsub y)) (fun q hq z ez y hy => by
      obtain ⟨hyl, hd⟩ := g1q.mp hy
      have hpl : p < part.length := (g1a.mp e).1
      rw [g1k (by omega)] at ez
      by_cases c : q = p
      ·subst c
       rw [e] at ez
       cases ez
       rw [hf y hyl] at hd
       have hne : y ≠ x := fun z => by
        subst z
        exact (List.nodup_append.mp hn).2.2 y hx y hyl rfl
       simpa [hne] using hd
      ·exact h3 q (by omega) z ez y hyl) (by omega)
    exact ⟨fun y hy => a1 y (g2d _ hy), a2, a3, a4⟩
theorem vP {a b : List Int} (ha : a.Nodup) (hb : b.Nodup) (h : ∀ x, x ∈ a ↔ x ∈ b) : a.Perm b := (List.perm_ext_iff_of_nodup ha hb).mpr h
def jM (t : Int -> Int -> Int) (n : Nat) (x : Int) : List Int := YG t n [x] (woM (idx n) x) 0
def Le (a b : Int) : Prop := b = 0 \/ (a ≠ 0 /\ a <= b)
theorem XF (i j k : Nat) : vf i j (k + 1) = vf i j k ++ [if k % 2 = 0 then i else j] := by
 unfold vf
 rw [g3i, g1f]
 rfl
theorem XG (i j k : Nat) : vf i j (k + 1) = i :: vf j i k := by
 unfold vf
 rw [g1m, g0f, g1d]
 congr 1
 apply g1z
 intro m _
 simp only [Function.comp]
 by_cases c : m % 2 = 0
 ·rw [if_pos c, if_neg (by omega)]
 ·rw [if_neg c, if_pos (by omega)]
section
variable {ts us : List T3} {n : Nat}
theorem Hu {f t m : Nat} (hft : f ≠ t) (hf : f < n) (ht : t < n) (em : zi ts f t = (m : Int)) (hm : 2 <= m /\ m <= 6) : Eqv (zf ts) n (vf f t m) (vf t f m) := by
 have br := GT (ts := ts) (n := n) hft hf ht em hm
 have e2 := Eqv.rev (zO ts) (G0 hf ht _) (G0 ht hf _) br
 rw [uO, uO] at e2
 exact e2.symm
theorem CP {f t m k : Nat} (hft : f ≠ t) (hf : f < n) (ht : t < n) (em : zi ts f t = (m : Int)) (hm : 2 <= m /\ m <= 6) (h : Sh ts n (vf f t k)) : k <= m := by
 have h2 := h.rev
 rw [<- uO, g2f] at h2
 exact Hx (Ne.symm hft) ht hf (by rw [vg]; exact em) hm h2
variable (hg : xX ts) (hg' : xX us) (hle : ∀ i j : Nat, i ≠ j -> Le (zi ts i j) (zi us i j))
include hg hg' hle
theorem UG : ∀ (L : Nat) (s : List Nat) (a : Nat), s.length = L -> Sh ts n s -> Sh us n s -> a < n -> Dn us n s a -> ∃ r, InW n r /\ r.length + 1 = s.length /\ Eqv (zf ts) n (a :: r) s /\ Eqv (zf us) n (a :: r) s := by
 intro L
 induction L using Nat.strongRecOn with
 | _ L ih =>
  intro s a hL hs hs' ha hd
  cases s with
  | nil =>
   obtain ⟨r, _, _, z⟩ := hd
   simp at z
  | cons f s =>
   have hf : f < n := hs.1 f g0l
   have hsw : InW n s := fun x hx => hs.1 x (g0o _ hx)
   by_cases c : f = a
   ·subst c
    exact ⟨s, hsw, rfl, Eqv.rfl' _, Eqv.rfl' _⟩
   ·obtain ⟨cc, m, em, hm, hc, e1, e2, hl⟩ := J8 hg' hs' c hf ha (Dn.head hs'.1) hd
    have wk : ∀ k, 1 <= k -> k <= m -> ∃ x, InW n x /\ k + x.length = (f :: s).length /\ Eqv (zf ts) n (vf f a k ++ x) (f :: s) /\ Eqv (zf us) n (vf f a k ++ x) (f :: s) := by
     intro k
     induction k with
     | zero => intro h; omega
     | succ k ihk =>
      intro _ hk
      by_cases k0 : k = 0
      ·subst k0
       exact ⟨s, hsw, by simp; omega, Eqv.rfl' _, Eqv.rfl' _⟩
      ·obtain ⟨x, x1, x2, x3, x4⟩ := ihk (by omega) (by omega)
       obtain ⟨y1, y2⟩ := Ga hg' hs' (f := f) (t := a) (m := m) (k := k) hf ha (by omega) hc e1 hl x1 x4 x2
       have hak := kY hf ha (n := n) k
       have hx : Sh ts n x := by
        have : Sh ts n (vf f a k ++ x) := hs.of (hak.app x1) x3 (by rw [g0h, xW]; exact x2)
        exact Sh.cut (a := vf f a k) (b := x) (c := []) (by simpa using this)
       have hsg : (if k % 2 = 0 then f else a) < n := by split <;> assumption
       obtain ⟨r, r1, r2, r3, r4⟩ := ih x.length (by omega) x _ rfl hx y1 hsg y2
       refine ⟨r, r1, by omega, ?_, ?_⟩
       ·rw [XF, g1b]
        exact ((Eqv.rfl' _).app r3).trans x3
       ·rw [XF, g1b]
        exact ((Eqv.rfl' _).app r4).trans x4
    obtain ⟨x, x1, x2, x3, x4⟩ := wk m (by omega) (g0r _)
    have hsa : Sh ts n (vf f a m) := by
     have : Sh ts n (vf f a m ++ x) := hs.of ((kY hf ha m).app x1) x3 (by rw [g0h, xW]; exact x2)
     exact Sh.cut (a := []) (b := vf f a m) (c := x) (by simpa using this)
    have hl0 := hle f a c
    rw [em] at hl0
    have hl1 : zi ts f a ≠ 0 /\ zi ts f a <= m := by
     rcases hl0 with z | z
     ·omega
     ·exact z
    have hgd := yT hg (f : Int) (a : Int)
    obtain ⟨m0, em0⟩ : ∃ m0 : Nat, zi ts f a = (m0 : Int) := ⟨(zi ts f a).toNat, by omega⟩
    have hm0 : 2 <= m0 /\ m0 <= 6 := by omega
    have := CP c hf ha em0 hm0 hsa
    have : m0 = m := by omega
    subst this
    have b1 := Hu c hf ha em0 hm0
    have b2 := Hu c hf ha em hm
    obtain ⟨k, rfl⟩ : ∃ k, m0 = k + 1 := ⟨m0 - 1, by omega⟩
    refine ⟨vf f a k ++ x, (kY hf ha k).app x1, ?_, ?_, ?_⟩
    ·rw [g0h, xW]
     omega
    ·have := (b1.symm.app (Eqv.rfl' x)).trans x3
     rw [XG a f] at this
     exact this
    ·have := (b2.symm.app (Eqv.rfl' x)).trans x4
     rw [XG a f] at this
     exact this
theorem U4 : ∀ w : List Nat, Sh ts n w -> Sh us n w
 | [], h => ⟨h.1, Lth.nil⟩
 | a :: s, h => by
  have hs : Sh ts n s := Sh.cut (a := [a]) (b := s) (c := []) (by simpa using h)
  have hs' := U4 s hs
  have ha : a < n := h.1 a g0l
  apply Classical.byContradiction
  intro hn
  obtain ⟨r, r1, r2, r3, _⟩ := UG hg hg' hle s.length s a rfl hs hs' ha (QC hg' hs' ha hn)
  have e : Eqv (zf ts) n r (a :: s) := by
   have e1 : Eqv (zf ts) n ([a] ++ (a :: r)) ([a] ++ s) := (Eqv.rfl' [a]).app r3
   have e2 : Eqv (zf ts) n ([a, a] ++ r) ([] ++ r) := (Eqv.twice (zO ts) ha).app (Eqv.rfl' r)
   exact e2.symm.trans e1
  have := h.2.le r1 e
  simp only [g0d] at this
  omega
end
end GH
namespace GH
open FL
def upI (a : Int) (k : Nat) : List Int := (g0u k).map fun (i : Nat) => a + (i : Int)
theorem ZI {a x : Int} {k : Nat} : x ∈ upI a k ↔ a <= x /\ x < a + k := by
 unfold upI
 rw [g1r]
 constructor
 ·rintro ⟨i, hi, rfl⟩
  rw [g1s] at hi
  omega
 ·intro h
  exact ⟨(x - a).toNat, g1s.mpr (by omega), by omega⟩
theorem j3 (a : Int) (k : Nat) : upI a (k + 1) = a :: upI (a + 1) k := by
 unfold upI
 rw [g1m, g0f, g1d]
 congr 1
 ·simp
 ·apply g1z
  intro i _
  simp only [Function.comp]
  omega
theorem XU (a : Int) (k : Nat) : upI a (k + 1) = upI a k ++ [a + k] := by
 unfold upI
 rw [g3i, g1f]
 rfl
theorem Q3 (m : Nat) : idx m = upI 0 m := by
 unfold idx upI
 exact g1z fun i _ => by omega
theorem UT {x : Int} {l : List Int} (h : x ∉ l) : woM l x = l := by
 unfold woM
 exact List.filter_eq_self.mpr fun y hy => decide_eq_true fun z => h (z ▸ hy)
theorem WO (a : Int) (k : Nat) : woM (upI a (k + 1)) a = upI (a + 1) k := by
 rw [j3]
 have e : woM (a :: upI (a + 1) k) a = woM (upI (a + 1) k) a := by
  unfold woM
  rw [g2r (by simp)]
 rw [e]
 exact UT fun z => by
  rw [ZI] at z
  omega
theorem UU (a : Int) (k : Nat) : woM (upI a (k + 1)) (a + k) = upI a k := by
 rw [XU]
 have e : woM (upI a k ++ [a + k]) (a + k) = woM (upI a k) (a + k) := by
  unfold woM
  rw [List.filter_append, g2r (by simp), List.filter_nil, g0t]
 rw [e]
 exact UT fun z => by
  rw [ZI] at z
  omega
section
variable {t : Int -> Int -> Int}
theorem ZJ {x y : Int} {l : List Int} : y ∈ nbM t x l ↔ y ∈ l /\ y ≠ x /\ t x y ≠ 2 := by
 unfold nbM
 rw [g1q, g2a, decide_eq_true_eq, decide_eq_true_eq]
theorem Wz {n : Nat} {x y : Int} {l o : List Int} (hy : y ∈ nbM t x l) (e : chG t (n + 1) x l = some o) : nbM t x l = [y] /\ ∃ o', chG t n y (woM l y) = some o' /\ o = y :: o' := by
 unfold chG at e
 rw [if_neg (fun z => by
  subst z
  exact absurd (ZJ.mp hy).1 (by simp))] at e
 split at e
 ·rename_i z ez
  rw [ez] at hy
  have : y = z := by simpa using hy
  subst this
  obtain ⟨o', h1, h2⟩ := g1w.mp e
  exact ⟨ez, o', h1, h2.symm⟩
 ·cases e
theorem Ht : ∀ (k n : Nat) (a : Int) {o : List Int}, (∀ i, a <= i -> i < a + k -> t i (i + 1) ≠ 2) -> k <= n -> chG t n a (upI (a + 1) k) = some o -> o = upI (a + 1) k
 | 0, n, a, o, _, _, e => by
  have : upI (a + 1) 0 = [] := rfl
  rw [this] at e ⊢
  cases n with
  | zero => cases e; rfl
  | succ n =>
   unfold chG at e
   rw [if_pos rfl] at e
   cases e
   rfl
 | k + 1, n, a, o, h, hn, e => by
  cases n with
  | zero => omega
  | succ n =>
   have hy : a + 1 ∈ nbM t a (upI (a + 1) (k + 1)) := ZJ.mpr ⟨by rw [ZI]; omega, by omega, h a (by omega) (by omega)⟩
   obtain ⟨_, o', e1, rfl⟩ := Wz hy e
   rw [WO] at e1
   rw [j3, Ht k n (a + 1) (fun i h1 h2 => h i (by omega) (by omega)) (by omega) e1]
theorem VE : ∀ (k n : Nat) (a : Int) {o : List Int}, (∀ i, a <= i -> i < a + k -> t (i + 1) i ≠ 2) -> k <= n -> chG t n (a + k) (upI a k) = some o -> o = (upI a k).reverse
 | 0, n, a, o, _, _, e => by
  have : upI a 0 = [] := rfl
  rw [this] at e ⊢
  cases n with
  | zero => cases e; rfl
  | succ n =>
   unfold chG at e
   rw [if_pos rfl] at e
   cases e
   rfl
 | k + 1, n, a, o, h, hn, e => by
  cases n with
  | zero => omega
  | succ n =>
   have hy : a + k ∈ nbM t (a + (k + 1 : Nat)) (upI a (k + 1)) := ZJ.mpr ⟨by rw [ZI]; omega, by omega, by
    have := h (a + k) (by omega) (by omega)
    rw [show a + k + 1 = a + ((k + 1 : Nat) : Int) by omega] at this
    exact this⟩
   obtain ⟨_, o', e1, rfl⟩ := Wz hy e
   rw [UU] at e1
   rw [XU, g2q, VE k n a (fun i h1 h2 => h i (by omega) (by omega)) (by omega) e1]
   rfl
theorem CK {n : Nat} {x y z : Int} {l : List Int} (hy : y ∈ nbM t x l) (hz : z ∈ nbM t x l) (h : y ≠ z) : chG t (n + 1) x l = none := by
 cases e : chG t (n + 1) x l with
 | none => rfl
 | some o =>
  have := (Wz hy e).1
  rw [this] at hz
  exact absurd (by simpa using hz : z = y).symm h
structure Up (t : Int -> Int -> Int) (m n : Nat) : Prop where
 m2 : 2 <= m
 mn : m <= n
 sym : ∀ i j, t i j = t j i
 nx : ∀ k : Int, 0 <= k -> k + 1 < m -> t k (k + 1) ≠ 2
 out : ∀ i j : Int, 0 <= i -> 0 <= j -> (m : Int) <= j -> i ≠ j -> t i j = 2
variable {m n : Nat}
theorem JI (h : Up t m n) {f : Int} {o : List Int} (hf : f ∈ idx m) (e : uc t (idx m) f = some o) : (o = idx m \/ o = (idx m).reverse) /\ ¬ (3 <= m /\ t 0 ((m : Int) - 1) ≠ 2) := by
 have hm := h.m2
 rw [Q3] at hf e ⊢
 rw [ZI] at hf
 obtain ⟨k, rfl⟩ : ∃ k, m = k + 1 := ⟨m - 1, by omega⟩
 unfold uc at e
 obtain ⟨o', e1, rfl⟩ := g1w.mp e
 have hl : (upI 0 (k + 1)).length = k + 1 := by simp [upI]
 rw [hl] at e1
 have nb : ∀ y, 0 <= y -> y < ((k + 1 : Nat) : Int) -> y ≠ f -> t f y ≠ 2 -> y ∈ nbM t f (woM (upI 0 (k + 1)) f) := fun y h1 h2 h3 h4 => ZJ.mpr ⟨by
  unfold woM
  rw [g1q, ZI]
  exact ⟨by omega, decide_eq_true h3⟩, h3, h4⟩
 have no : ∀ y z, 0 <= y -> y < ((k + 1 : Nat) : Int) -> y ≠ f -> t f y ≠ 2 -> 0 <= z -> z < ((k + 1 : Nat) : Int) -> z ≠ f -> t f z ≠ 2 -> y ≠ z -> False := fun y z h1 h2 h3 h4 g1 g2 g3 g4 c => by
  rw [CK (nb y h1 h2 h3 h4) (nb z g1 g2 g3 g4) c] at e1
  cases e1
 have nxt : f + 1 < ((k + 1 : Nat) : Int) -> t f (f + 1) ≠ 2 := fun z => h.nx f (by omega) z
 have prv : 1 <= f -> t f (f - 1) ≠ 2 := fun z => by
  have := h.nx (f - 1) (by omega) (by omega)
  rw [h.sym, show f - 1 + 1 = f by omega] at this
  exact this
 by_cases c0 : f = 0
 ·subst c0
  constructor
  ·left
   rw [WO] at e1
   rw [j3, Ht k (k + 1) 0 (fun i h1 h2 => h.nx i h1 (by omega)) (by omega) e1]
  ·rintro ⟨h3, hr⟩
   have := nxt (by omega)
   exact no 1 (((k + 1 : Nat) : Int) - 1) (by omega) (by omega) (by omega) (by simpa using this) (by omega) (by omega) (by omega) hr (by omega)
 ·by_cases c1 : f = k
  ·subst c1
   constructor
   ·right
    have hw := UU 0 k
    rw [Int.zero_add] at hw
    rw [hw] at e1
    have := VE (t := t) k (k + 1) 0 (fun i h1 h2 => by rw [h.sym]; exact h.nx i h1 (by omega)) (by omega) (by rw [Int.zero_add]; exact e1)
    rw [XU, g2q, this, Int.zero_add]
    rfl
   ·rintro ⟨h3, hr⟩
    have := prv (by omega)
    rw [h.sym] at hr
    exact no 0 ((k : Int) - 1) (by omega) (by omega) (by omega) (by rw [show ((k + 1 : Nat) : Int) - 1 = k by omega] at hr; exact hr) (by omega) (by omega) (by omega) this (by omega)
  ·exact (no (f - 1) (f + 1) (by omega) (by omega) (by omega) (prv (by omega)) (by omega) (by omega) (by omega) (nxt (by omega)) (by omega)).elim
def J0 (t : Int -> Int -> Int) (m : Nat) : List Int := (g0u (m - 1)).map fun (k : Nat) => t (k : Int) ((k : Int) + 1)
theorem XH (t : Int -> Int -> Int) (m : Nat) : vN t (idx m) = J0 t m := by
 unfold vN J0 idx
 apply g2z
 ·simp
 ·intro i h1 h2
  simp
theorem JV (h : ∀ i j, t i j = t j i) (o : List Int) : vN t o.reverse = (vN t o).reverse := by
 unfold vN
 apply g2z
 ·simp
 ·intro i h1 h2
  simp at h1 h2 ⊢
  rw [h]
  congr 2 <;> congr 1 <;> omega
def UQ (l : List Int) : Prop := 0 ∈ l \/ (6 ∈ l /\ 2 <= l.length) \/ (2 <= l.length /\ l.head? ≠ some 3 /\ l.getLast? ≠ some 3)
theorem UQ.rev {l : List Int} (h : UQ l) : UQ l.reverse := by
 unfold UQ at h ⊢
 rw [List.mem_reverse, List.mem_reverse, g2k, List.head?_reverse, List.getLast?_reverse]
 rcases h with h | h | ⟨h1, h2, h3⟩
 ·exact .inl h
 ·exact .inr (.inl h)
 ·exact .inr (.inr ⟨h1, h3, h2⟩)
theorem UQ.kch {l : List Int} (h : UQ l) : CY l = (0, 0) := by
 have r : ∀ {x : Int} {k : Nat}, x ∈ g0e k (3 : Int) -> x = 3 := fun z => (List.mem_replicate.mp z).2
 have n1 : l ≠ g0e l.length 3 := fun e => by
  rcases h with h | ⟨h, _⟩ | ⟨h1, h2, _⟩
  ·rw [e] at h; exact absurd (r h) (by decide)
  ·rw [e] at h; exact absurd (r h) (by decide)
  ·match l, h1, e, h2 with
   | x :: l, _, e, h2 =>
    rw [g0d, g1p] at e
    rw [(List.cons.inj e).1] at h2
    exact h2 rfl
 have n2 : l ≠ g0e (l.length - 1) 3 ++ [4] := fun e => by
  rcases h with h | ⟨h, _⟩ | ⟨h1, h2, _⟩
  ·rw [e] at h
   rcases g1l.mp h with z | z
   ·exact absurd (r z) (by decide)
   ·simp at z
  ·rw [e] at h
   rcases g1l.mp h with z | z
   ·exact absurd (r z) (by decide)
   ·simp at z
  ·match l, h1, e, h2 with
   | x :: y :: l, _, e, h2 =>
    rw [g0d, g0d, Nat.add_sub_cancel, g1p, g0v] at e
    rw [(List.cons.inj e).1] at h2
    exact h2 rfl
 unfold CY
 rw [if_neg n1, if_neg n2, if_neg (fun e => by subst e; simp [UQ] at h), if_neg (fun e => by subst e; simp [UQ] at h), if_neg (fun e => by subst e; simp [UQ] at h), if_neg (fun e => by subst e; simp [UQ] at h), if_neg (fun e => by subst e; simp [UQ] at h)]
def bdB (t : Int -> Int -> Int) (m : Nat) : Bool :=
 (g0u (m - 1)).any (fun k => decide (t (k : Int) ((k : Int) + 1) = 0)) || (decide (3 <= m) && (g0u (m - 1)).any (fun k => decide (t (k : Int) ((k : Int) + 1) = 6))) ||
 (decide (3 <= m) && decide (t 0 1 ≠ 3) && decide (t ((m : Int) - 2) ((m : Int) - 1) ≠ 3))
theorem VJ {t : Int -> Int -> Int} {m : Nat} : bdB t m = true ↔ (∃ k : Nat, k < m - 1 /\ t k ((k : Int) + 1) = 0) \/ (3 <= m /\ ∃ k : Nat, k < m - 1 /\ t k ((k : Int) + 1) = 6) \/ (3 <= m /\ t 0 1 ≠ 3 /\ t ((m : Int) - 2) ((m : Int) - 1) ≠ 3) := by
 unfold bdB
 simp only [g3f, g2a, g2t, decide_eq_true_eq, g1s]
 constructor
 ·rintro ((h | h) | h)
  ·exact .inl h
  ·exact .inr (.inl h)
  ·exact .inr (.inr ⟨h.1.1, h.1.2, h.2⟩)
 ·rintro (h | h | h)
  ·exact .inl (.inl h)
  ·exact .inl (.inr h)
  ·exact .inr ⟨⟨h.1, h.2.1⟩, h.2.2⟩
theorem Mq (hb : bdB t m = true) : UQ (J0 t m) := by
 have mem : ∀ {k : Nat} {x : Int}, k < m - 1 -> t k ((k : Int) + 1) = x -> x ∈ J0 t m := fun hk e => g1r.mpr ⟨_, g1s.mpr hk, e⟩
 have hl : (J0 t m).length = m - 1 := by simp [J0]
 rcases VJ.mp hb with ⟨k, hk, e⟩ | ⟨h3, k, hk, e⟩ | ⟨h3, h1, h2⟩
 ·exact .inl (mem hk e)
 ·exact .inr (.inl ⟨mem hk e, by omega⟩)
 ·refine .inr (.inr ⟨by omega, ?_, ?_⟩)
  ·obtain ⟨k, rfl⟩ : ∃ k, m = k + 2 := ⟨m - 2, by omega⟩
   have e : J0 t (k + 2) = t 0 1 :: ((g0u k).map Nat.succ).map fun (k : Nat) => t (k : Int) ((k : Int) + 1) := by
    unfold J0
    rw [show k + 2 - 1 = k + 1 by omega, g1m, g0f]
    rfl
   rw [e, List.head?_cons]
   exact fun z => h1 (g2h.inj z)
  ·obtain ⟨k, rfl⟩ : ∃ k, m = k + 2 := ⟨m - 2, by omega⟩
   have e : J0 t (k + 2) = ((g0u k).map fun (k : Nat) => t (k : Int) ((k : Int) + 1)) ++ [t k ((k : Int) + 1)] := by
    unfold J0
    rw [show k + 2 - 1 = k + 1 by omega, g3i, g1f]
    rfl
   rw [e, List.getLast?_append]
   simp
   intro z
   apply h2
   rw [<- z]
   congr 1 <;> omega
theorem Gi (h : Up t m n) (hb : (3 <= m /\ t 0 ((m : Int) - 1) ≠ 2) \/ bdB t m = true) {c : Kd} (hc : c ∈ Gj t (idx m)) : c = (0, 0) := by
 unfold Gj xu at hc
 obtain ⟨o, ho, rfl⟩ := g1r.mp hc
 obtain ⟨f, hf, e⟩ := g3d.mp ho
 obtain ⟨h1, h2⟩ := JI h hf e
 have hb' := Mq (hb.resolve_left h2)
 rcases h1 with rfl | rfl
 ·rw [XH]; exact hb'.kch
 ·rw [JV h.sym, XH]; exact hb'.rev.kch
theorem Gh (h : Up t m n) (hb : 3 <= m /\ t 0 ((m : Int) - 1) ≠ 2) : Hm t (idx m) = [] := by
 unfold Hm
 rw [List.flatMap_eq_nil_iff]
 intro e he
 rw [y6] at he
 have two : ∀ y z, 0 <= y -> y < (m : Int) -> y ≠ e -> t e y ≠ 2 -> 0 <= z -> z < (m : Int) -> z ≠ e -> t e z ≠ 2 -> y ≠ z -> (match nbM t e (idx m) with | [y] => (xu t (woM (idx m) e)).map fun o => Wi o y | _ => []) = [] := fun y z h1 h2 h3 h4 g1 g2 g3 g4 c => by
  have a1 : y ∈ nbM t e (idx m) := ZJ.mpr ⟨y6.mpr ⟨h1, h2⟩, h3, h4⟩
  have a2 : z ∈ nbM t e (idx m) := ZJ.mpr ⟨y6.mpr ⟨g1, g2⟩, g3, g4⟩
  split
  ·rename_i u eu
   rw [eu] at a1 a2
   simp at a1 a2
   exact absurd (a1.trans a2.symm) c
  ·rfl
 have nxt : e + 1 < (m : Int) -> t e (e + 1) ≠ 2 := fun z => h.nx e (by omega) z
 have prv : 1 <= e -> t e (e - 1) ≠ 2 := fun z => by
  have := h.nx (e - 1) (by omega) (by omega)
  rw [h.sym, show e - 1 + 1 = e by omega] at this
  exact this
 by_cases c0 : e = 0
 ·subst c0
  exact two 1 ((m : Int) - 1) (by omega) (by omega) (by omega) (by simpa using nxt (by omega)) (by omega) (by omega) (by omega) hb.2 (by omega)
 ·by_cases c1 : e = (m : Int) - 1
  ·subst c1
   exact two 0 ((m : Int) - 1 - 1) (by omega) (by omega) (by omega) (by rw [h.sym]; exact hb.2) (by omega) (by omega) (by omega) (prv (by omega)) (by omega)
  ·exact two (e - 1) (e + 1) (by omega) (by omega) (by omega) (prv (by omega)) (by omega) (by omega) (by omega) (nxt (by omega)) (by omega)
theorem WU : ∀ {us : List T3} {i j : Int}, zi us i j ≠ 2 -> ∃ u ∈ us, u.1 = mlo i j /\ u.2.2 = zi us i j
 | [], i, j, h => absurd rfl h
 | u :: us, i, j, h => by
  unfold zi at h ⊢
  by_cases c : u.1 = mlo i j /\ u.2.1 = mhi i j
  ·rw [if_pos c]
   exact ⟨u, g0l, c.1, rfl⟩
  ·rw [if_neg c] at h ⊢
   obtain ⟨v, hv, e⟩ := WU h
   exact ⟨v, g0o _ hv, e⟩
theorem Dd {us : List T3} (h : Up (zi us) m n) (hb : bdB (zi us) m = true) : XY us (idx m) = false := by
 have key : ∀ k : Int, 0 <= k -> k + 1 < m -> zi us k (k + 1) ≠ 3 -> XY us (idx m) = false := fun k h1 h2 h3 => by
  obtain ⟨u, hu, e1, e2⟩ := WU (h.nx k h1 h2)
  have e3 : u.1 = k := by rw [e1]; unfold mlo; rw [if_neg (by omega)]
  rw [Bool.eq_false_iff]
  intro z
  unfold XY at z
  have := g2b.mp z u (g1q.mpr ⟨hu, decide_eq_true (by rw [y6]; omega)⟩)
  rw [decide_eq_true_eq, e2] at this
  exact h3 this
 rcases VJ.mp hb with ⟨k, hk, e⟩ | ⟨h3, k, hk, e⟩ | ⟨h3, h1, h2⟩
 ·exact key k (by omega) (by omega) (by rw [e]; decide)
 ·exact key k (by omega) (by omega) (by rw [e]; decide)
 ·exact key 0 (by omega) (by omega) h1
theorem QW {us : List T3} (h : Up (zi us) m n) (hb : (3 <= m /\ zi us 0 ((m : Int) - 1) ≠ 2) \/ bdB (zi us) m = true) {c : Kd} (hc : c ∈ jf (zi us) (XY us (idx m)) (idx m)) : c = (0, 0) := by
 unfold jf at hc
 rcases g1l.mp hc with z | z
 ·exact Gi h hb z
 ·split at z
  ·rename_i c3
   rcases hb with hb | hb
   ·rw [Gh h hb] at z
    cases z
   ·rw [Dd h hb] at c3
    cases c3
  ·cases z
theorem Vo (t : Int -> Int -> Int) (b : Bool) (x : Int) : jf t b [x] = [(1, 1)] := by
 have w : woM [x] x = [] := by simp [woM]
 have c : uc t [x] x = some [x] := by
  unfold uc
  rw [w]
  rfl
 have k1 : Gj t [x] = [(1, 1)] := by
  unfold Gj xu
  rw [List.filterMap_cons_some c]
  rfl
 have k2 : Hm t [x] = [] := by
  unfold Hm
  have : nbM t x [x] = [] := by simp [nbM]
  rw [List.flatMap_cons, this]
  rfl
 unfold jf
 rw [k1, k2]
 cases b <;> rfl
theorem Qs {x : Int} {S : List Int} (hx : x ∈ idx n) (hxS : x ∈ S) (hS : ∀ x ∈ S, ∀ y ∈ idx n, y ∉ S -> t x y = 2) :
  x ∈ jM t n x /\ (jM t n x).Nodup /\ (∀ y ∈ jM t n x, y ∈ S) /\ ∀ y ∈ jM t n x, ∀ z ∈ idx n, z ∉ jM t n x -> t y z = 2 := by
 have hwo : ([x] ++ woM (idx n) x).Perm (idx n) := by
  refine vP ?_ (um _) fun y => ?_
  ·rw [g1u, g2w]
   refine ⟨fun z => ?_, (um _).filter _⟩
   unfold woM at z
   simpa using (g1q.mp z).2
  ·rw [g1u, g0n]
   unfold woM
   rw [g1q]
   constructor
   ·rintro (rfl | z)
    ·exact hx
    ·exact z.1
   ·intro z
    by_cases c : y = x
    ·exact .inl c
    ·exact .inr ⟨z, decide_eq_true c⟩
 obtain ⟨a1, a2, a3, a4⟩ := VI (um n) hS n [x] (woM (idx n) x) 0 hwo (fun y hy => by simp at hy; exact hy ▸ hxS) (fun q hq => by omega) (by simp [idx])
 exact ⟨a1 x g0l, a2, a3, a4⟩
theorem Up.part (h : Up t m n) {x : Int} (h0 : 0 <= x) (h1 : x < m) : (jM t n x).Perm (idx m) := by
 have hmn := h.mn
 obtain ⟨p1, p2, p3, p4⟩ := Qs (t := t) (n := n) (S := idx m) (x := x) (y6.mpr ⟨h0, by omega⟩) (y6.mpr ⟨h0, h1⟩) fun y hy z hz hzn => by
  rw [y6] at hy hz hzn
  exact h.out y z hy.1 hz.1 (by omega) (by omega)
 have up : ∀ k : Nat, x + k < m -> x + k ∈ jM t n x := by
  intro k
  induction k with
  | zero => intro _; simpa using p1
  | succ k ih =>
   intro hk
   have := ih (by omega)
   apply Classical.byContradiction
   intro hn
   refine h.nx (x + k) (by omega) (by omega) (p4 _ this _ (y6.mpr ⟨by omega, by omega⟩) ?_)
   rw [show x + (k : Int) + 1 = x + ((k + 1 : Nat) : Int) by omega]
   exact hn
 have dn : ∀ k : Nat, 0 <= x - k -> x - k ∈ jM t n x := by
  intro k
  induction k with
  | zero => intro _; simpa using p1
  | succ k ih =>
   intro hk
   have := ih (by omega)
   apply Classical.byContradiction
   intro hn
   have e := h.nx (x - ((k + 1 : Nat) : Int)) (by omega) (by omega)
   rw [h.sym, show x - ((k + 1 : Nat) : Int) + 1 = x - k by omega] at e
   exact e (p4 _ this _ (y6.mpr ⟨by omega, by omega⟩) hn)
 refine vP p2 (um m) fun y => ⟨p3 y, fun hy => ?_⟩
 rw [y6] at hy
 by_cases c : x <= y
 ·have := up (y - x).toNat (by omega)
  rwa [show x + ((y - x).toNat : Int) = y by omega] at this
 ·have := dn (x - y).toNat (by omega)
  rwa [show x - ((x - y).toNat : Int) = y by omega] at this
theorem Up.alone (h : Up t m n) {x : Int} (h0 : (m : Int) <= x) (h1 : x < n) : jM t n x = [x] := by
 obtain ⟨p1, p2, p3, p4⟩ := Qs (t := t) (n := n) (S := [x]) (x := x) (y6.mpr ⟨by omega, h1⟩) (by simp) fun y hy z hz hzn => by
  have e : y = x := by simpa using hy
  subst e
  rw [y6] at hz
  rw [h.sym]
  exact h.out z y hz.1 (by omega) h0 (by simpa using hzn)
 exact List.perm_singleton.mp (vP p2 (by simp) fun y => ⟨p3 y, fun hy => by
  have e : y = x := by simpa using hy
  subst e
  exact p1⟩)
end
theorem UA (m : Nat) : (idx m).Pairwise (· <= ·) := by
 unfold idx
 rw [List.pairwise_map]
 exact List.pairwise_lt_range.imp fun h => by omega
theorem Kj {l : List Int} {m : Nat} (h : l.Perm (idx m)) : uP l = idx m := X8 ((vh l).trans h) (ug l) (UA m)
theorem Ki (x : Int) : uP [x] = [x] := List.perm_singleton.mp (vh [x])
end GH
namespace GH
def qu (m p : Nat) : List Nat := (g0e p (g0u m)).flatten
def kW (m : Nat) : List (List T3) :=
 if m = 2 then [[(0, 1, 0)]] else
 [kO (r3 (m - 1)) ++ [(0, (m : Int) - 1, 3)]] ++ (g0u (m - 1)).map (fun k => kO ((r3 (m - 1)).set k 0)) ++
 [kO (((r3 (m - 1)).set 0 4).set (m - 2) 4), kO (((r3 (m - 1)).set 0 5).set (m - 2) 4), kO (((r3 (m - 1)).set 0 5).set (m - 2) 5), kO ((r3 (m - 1)).set 0 6), kO ((r3 (m - 1)).set (m - 2) 6)]
def usB (m : Nat) (us : List T3) : Bool := us.all fun u => decide (0 <= u.1) && decide (u.1 < u.2.1) && decide (u.2.1 < m) && (decide (u.2.2 = 0) || (decide (3 <= u.2.2) && decide (u.2.2 <= 6)))
def rgB (t : Int -> Int -> Int) (m : Nat) : Bool := (decide (3 <= m) && decide (t 0 ((m : Int) - 1) ≠ 2)) || bdB t m
def okE (m : Nat) (ts : List T3) : Bool :=
 usB m ts && decide ((ts.map fun u => (u.1, u.2.1)).Nodup) && ((g0u (m - 1)).all fun k => decide (zi ts k ((k : Int) + 1) ≠ 2)) && rgB (zi ts) m && decide (ts.length <= 6) &&
 ((g0u 7).all fun n => decide (n < m) || (xC ts n [] (qu m (24 / m))).all id)
theorem Pu : (kW 2).all (okE 2) = true := by decide +kernel
theorem Pt : (kW 3).all (okE 3) = true := by decide +kernel
theorem Pr : (kW 4).all (okE 4) = true := by decide +kernel
theorem Pq : (kW 5).all (okE 5) = true := by decide +kernel
theorem Pp : (kW 6).all (okE 6) = true := by decide +kernel
theorem BE {m : Nat} (h2 : 2 <= m) (h6 : m <= 6) {ts : List T3} (h : ts ∈ kW m) : okE m ts = true := by
 have : m = 2 \/ m = 3 \/ m = 4 \/ m = 5 \/ m = 6 := by omega
 rcases this with rfl | rfl | rfl | rfl | rfl
 ·exact g2b.mp Pu ts h
 ·exact g2b.mp Pt ts h
 ·exact g2b.mp Pr ts h
 ·exact g2b.mp Pq ts h
 ·exact g2b.mp Pp ts h
def UJ (m : Nat) (us : List T3) : Prop := ∀ u ∈ us, 0 <= u.1 /\ u.1 < u.2.1 /\ u.2.1 < m /\ (u.2.2 = 0 \/ (3 <= u.2.2 /\ u.2.2 <= 6))
theorem C6 {m : Nat} {us : List T3} (h : usB m us = true) : UJ m us := fun u hu => by
 have := g2b.mp h u hu
 simp only [g2a, g3f, decide_eq_true_eq] at this
 obtain ⟨⟨⟨h1, h2⟩, h3⟩, h4⟩ := this
 exact ⟨h1, h2, h3, h4⟩
theorem UJ.good {m : Nat} {us : List T3} (h : UJ m us) : xX us := fun u hu => (h u hu).2.2.2
structure Bs (m : Nat) (ts : List T3) : Prop where
 us : UJ m ts
 nd : (ts.map fun u => (u.1, u.2.1)).Nodup
 nx : ∀ k : Nat, k < m - 1 -> zi ts k ((k : Int) + 1) ≠ 2
 rg : rgB (zi ts) m = true
 ln : ts.length <= 6
 sh : ∀ n, m <= n -> n <= 6 -> (xC ts n [] (qu m (24 / m))).all id = true
theorem JO {m : Nat} (h2 : 2 <= m) (h6 : m <= 6) {ts : List T3} (h : ts ∈ kW m) : Bs m ts := by
 have := BE h2 h6 h
 unfold okE at this
 simp only [g2a] at this
 obtain ⟨⟨⟨⟨⟨h1, h3⟩, h4⟩, h5⟩, h7⟩, h8⟩ := this
 refine ⟨C6 h1, of_decide_eq_true h3, fun k hk => of_decide_eq_true (g2b.mp h4 k (g1s.mpr hk)), h5, of_decide_eq_true h7, fun n hn hn6 => ?_⟩
 have := g2b.mp h8 n (g1s.mpr (by omega))
 rw [g3f] at this
 rcases this with z | z
 ·exact absurd (of_decide_eq_true z) (by omega)
 ·exact z
theorem Ql {m n p : Nat} (h : m <= n) : InW n (qu m p) := fun i hi => by
 unfold qu at hi
 obtain ⟨l, hl, hi⟩ := List.mem_flatten.mp hi
 rw [(List.mem_replicate.mp hl).2, g1s] at hi
 omega
theorem KC (m p : Nat) : (qu m p).length = p * m := by
 unfold qu
 induction p with
 | zero => simp
 | succ p ih => rw [g1p, g2i, g0h, ih, List.length_range, Nat.succ_mul]; omega
theorem W9 (m p q : Nat) : qu m (p + q) = qu m p ++ qu m q := by
 unfold qu
 rw [<- List.replicate_append_replicate, List.flatten_append]
theorem Le.good {a b : Int} (h : Le a b) (hb : b = 0 \/ (2 <= b /\ b <= 6)) : (a = 0 -> b = 0) /\ (a ≠ 2 -> (a = 0 \/ 2 <= a) -> b ≠ 2) /\ (a = 6 -> b = 0 \/ b = 6) /\ (a ≠ 2 -> a ≠ 3 -> (a = 0 \/ 2 <= a) -> b ≠ 3) := by
 rcases h with h | h <;> refine ⟨?_, ?_, ?_, ?_⟩ <;> omega
section
variable {m n : Nat} {ts us : List T3}
theorem MI (hm : 2 <= m) (hmn : m <= n) (B : Bs m ts) (U : UJ m us) (hle : ∀ i j : Nat, i ≠ j -> Le (zi ts i j) (zi us i j)) : Up (zi us) m n where
 m2 := hm
 mn := hmn
 sym := vg us
 nx := fun k h1 h2 => by
  have b := B.nx k.toNat (by omega)
  have l := hle k.toNat (k.toNat + 1) (by omega)
  have g := yT U.good ((k.toNat : Nat) : Int) ((k.toNat + 1 : Nat) : Int)
  have g' := yT B.us.good ((k.toNat : Nat) : Int) ((k.toNat + 1 : Nat) : Int)
  rw [show ((k.toNat + 1 : Nat) : Int) = k + 1 by omega, show ((k.toNat : Nat) : Int) = k by omega] at l g g'
  rw [show ((k.toNat : Nat) : Int) = k by omega] at b
  exact (l.good g).2.1 b (by omega)
 out := fun i j h1 h2 h3 h4 => Z0 fun u hu hh => by
  obtain ⟨u1, u2, u3, _⟩ := U u hu
  have : u.2.1 = mhi i j := hh.2
  unfold mhi at this
  split at this <;> omega
theorem M0 (hm : 2 <= m) (B : Bs m ts) (U : UJ m us) (hle : ∀ i j : Nat, i ≠ j -> Le (zi ts i j) (zi us i j)) : (3 <= m /\ zi us 0 ((m : Int) - 1) ≠ 2) \/ bdB (zi us) m = true := by
 have key : ∀ i j : Int, 0 <= i -> 0 <= j -> i ≠ j -> (zi ts i j = 0 -> zi us i j = 0) /\ (zi ts i j ≠ 2 -> zi us i j ≠ 2) /\ (zi ts i j = 6 -> zi us i j = 0 \/ zi us i j = 6) /\ (zi ts i j ≠ 2 -> zi ts i j ≠ 3 -> zi us i j ≠ 3) := fun i j h1 h2 h3 => by
  have l := hle i.toNat j.toNat (by omega)
  rw [show ((i.toNat : Nat) : Int) = i by omega, show ((j.toNat : Nat) : Int) = j by omega] at l
  have g' := yT B.us.good i j
  obtain ⟨a1, a2, a3, a4⟩ := l.good (yT U.good i j)
  exact ⟨a1, fun z => a2 z (by omega), a3, fun z y => a4 z y (by omega)⟩
 have h := B.rg
 unfold rgB at h
 rw [g3f] at h
 rcases h with h | h
 ·rw [g2a, decide_eq_true_eq, decide_eq_true_eq] at h
  exact .inl ⟨h.1, (key 0 _ (by omega) (by omega) (by omega)).2.1 h.2⟩
 ·refine .inr (VJ.mpr ?_)
  rcases VJ.mp h with ⟨k, hk, e⟩ | ⟨h3, k, hk, e⟩ | ⟨h3, h1, h2⟩
  ·exact .inl ⟨k, hk, (key k _ (by omega) (by omega) (by omega)).1 e⟩
  ·rcases (key k _ (by omega) (by omega) (by omega)).2.2.1 e with z | z
   ·exact .inl ⟨k, hk, z⟩
   ·exact .inr (.inl ⟨h3, k, hk, z⟩)
  ·have n1 := B.nx 0 (by omega)
   have n2 := B.nx (m - 2) (by omega)
   rw [show (((m - 2 : Nat)) : Int) + 1 = (m : Int) - 1 by omega, show (((m - 2 : Nat)) : Int) = (m : Int) - 2 by omega] at n2
   exact .inr (.inr ⟨h3, (key 0 1 (by omega) (by omega) (by omega)).2.2.2 (by simpa using n1) h1, (key _ _ (by omega) (by omega) (by omega)).2.2.2 n2 h2⟩)
theorem Qk (hmn : m <= n) (hn : n <= 6) (B : Bs m ts) (U : UJ m us) (hle : ∀ i j : Nat, i ≠ j -> Le (zi ts i j) (zi us i j)) {p : Nat} (hp : p <= 24 / m) : Sh us n (qu m p) := by
 have h1 : Sh ts n (qu m (24 / m)) := (YO B.us.good (Ql hmn)).mp (B.sh n hmn hn)
 have h2 : Sh ts n (qu m p) := by
  have e : qu m (24 / m) = [] ++ qu m p ++ qu m (24 / m - p) := by
   rw [g0s, <- W9]
   congr 1
   omega
  rw [e] at h1
  exact h1.cut
 exact U4 B.us.good U.good hle _ h2
end
end GH
namespace Pk64
open PySem PySem.Spec PyProof.Rows L2 FL
def top (i : Nat) : Stmt := PySem.Challenge.pw_mirrorhouse_k64_whole_powers_of_endless.main.body.getD i (.Pass ⟨0, 0, 0, 0⟩)
abbrev ZA : Stmt := top 1
abbrev qU : Stmt := top 2
abbrev qW : Stmt := top 3
abbrev xv : Stmt := top 4
abbrev Zx : Stmt := top 5
abbrev vj : Stmt := top 9
abbrev Zz : Stmt := top 10
abbrev xw : Stmt := top 15
abbrev vi : Stmt := top 16
abbrev vk : Stmt := top 17
abbrev qV : Stmt := top 18
abbrev xx : Stmt := top 19
abbrev uI : Stmt := top 20
abbrev xf : Stmt := top 21
abbrev yI : Stmt := top 22
abbrev zX : Stmt := top 23
abbrev yt : Stmt := top 24
abbrev yU : Stmt := top 25
abbrev yH : Stmt := top 26
abbrev vq : Stmt := top 27
abbrev qY : Stmt := top 28
abbrev vw : Stmt := top 29
abbrev uF : Stmt := top 33
abbrev wI : Stmt := top 34
abbrev V7 : Stmt := top 35
abbrev uH : Stmt := top 36
abbrev vm : Stmt := top 37
abbrev z9 : Stmt := top 38
abbrev wK : Stmt := top 39
abbrev yA : Stmt := top 41
abbrev wJ : Stmt := top 42
abbrev uG : Stmt := top 43
abbrev ZC : Stmt := top 45
abbrev qX : Stmt := top 46
abbrev vn : Stmt := top 47
abbrev vp : Stmt := top 48
abbrev vo : Stmt := top 49
abbrev Ya : Stmt := top 50
structure Txt (K : W.Frag) (mg : Str -> Option Value) : Prop where
 base : True
 all_b : mg "all" = none
 bool_b : mg "bool" = none
 enumerate_b : mg "enumerate" = none
 int_b : mg "int" = none
 isinstance_b : mg "isinstance" = none
 len_b : mg "len" = none
 list_b : mg "list" = none
 max_b : mg "max" = none
 min_b : mg "min" = none
 range_b : mg "range" = none
 reversed_b : mg "reversed" = none
 sorted_b : mg "sorted" = none
 sum_b : mg "sum" = none
 tuple_b : mg "tuple" = none
 zip_b : mg "zip" = none
 COMMON_TURN_c : ∃ t, mg "COMMON_TURN" = some (Value.int 3 t)
 NOT_TOLD_c : ∃ t, mg "NOT_TOLD" = some (Value.int 2 t)
 NOUGHT_c : GTup K mg "NOUGHT" [(.int 0), (.int 0)]
 NO_KIND_c : ∃ t, mg "NO_KIND" = some (Value.str "-" t)
 ONE_c : GTup K mg "ONE" [(.int 1), (.int 0)]
 PULLS_BELOW_NOUGHT_c : GDict K mg "PULLS_BELOW_NOUGHT" [(0, (.tup [(.int 2), (.int 0)])), (2, (.tup [(.int 0), (.int 0)])), (3, (.tup [(.int 1), (.int 0)])), (4, (.tup [(.int 2), (.int 0)])), (5, (.tup [(.int 0), (.int 1)])), (6, (.tup [(.int 3), (.int 0)]))]
 RARE_CHAINS_c : GDictT K mg "RARE_CHAINS" [([3, 4, 3], (.str "f4")), ([3, 5], (.str "h3")), ([3, 3, 5], (.str "h4")), ([5], (.str "i5")), ([6], (.str "i6"))]
noncomputable def JY : FS := (yY (tupF (za (zc ue (zc ixD (vF 0) (cF (.int 0))) (zc ixD (vF 1) (cF (.int 0)))) (za (zc ue (zc ixD (vF 0) (cF (.int 1))) (zc ixD (vF 1) (cF (.int 1)))) zw))))
noncomputable def v8 : List D -> Option D := vL 2 JY
theorem HJ : FnScope ["x", "y"] ["x", "y"] (zd ZA) := ⟨rfl, rfl, rfl, by decide +kernel, rfl, by decide +kernel, by decide +kernel⟩
section
variable {P : Program} {w : World} {K : W.Frag} {mg : Str -> Option Value} {base : Heap} {f : Addr} {fd : FuncData}
theorem BC (Fn : Fun K "plus" "plus" ZA f fd) (T : Txt K mg)  :
  FnOk P w K mg base CX0 1 f fd ["x", "y"] (spF K 2 v8) :=
 yd (k := 0) (m := 2) (F := JY) rfl rfl Fn HJ fun cdv A outer s H E hr => (zj (zJ (uQ (zb (xb (DE.dr (wN (DE.dr (dv 0)) (DE.dr zk))) (DE.dr (wN (DE.dr (dv 1)) (DE.dr zk)))) (zb (xb (DE.dr (wN (DE.dr (dv 0)) (DE.dr zk))) (DE.dr (wN (DE.dr (dv 1)) (DE.dr zk)))) zl)))))
noncomputable def WH : FS := (yb (xh 2 (zc u5 (zc ixD (vF 0) (cF (.int 1))) (zc ixD (vF 1) (cF (.int 1))))) (yY (tupF (za (zc ue (zc u5 (zc ixD (vF 0) (cF (.int 0))) (zc ixD (vF 1) (cF (.int 0)))) (vF 2)) (za (zc ue (zc ue (zc u5 (zc ixD (vF 0) (cF (.int 0))) (zc ixD (vF 1) (cF (.int 1)))) (zc u5 (zc ixD (vF 0) (cF (.int 1))) (zc ixD (vF 1) (cF (.int 0))))) (vF 2)) zw)))))
noncomputable def wU : List D -> Option D := vL 3 WH
theorem WY : FnScope ["x", "y", "both"] ["x", "y"] (zd qU) := ⟨rfl, rfl, rfl, by decide +kernel, rfl, by decide +kernel, by decide +kernel⟩
theorem KZ (Fn : Fun K "times" "times" qU f fd) (T : Txt K mg)  :
  FnOk P w K mg base CX0 1 f fd ["x", "y"] (spF K 2 wU) :=
 yd (k := 0) (m := 3) (F := WH) rfl rfl Fn WY fun cdv A outer s H E hr => (ze (yh 2 WY.nd (uR (DE.dr (wN (DE.dr (dv 0)) (DE.dr zk))) (DE.dr (wN (DE.dr (dv 1)) (DE.dr zk))))) (zj (zJ (uQ (zb (xb (DE.dr (uR (DE.dr (wN (DE.dr (dv 0)) (DE.dr zk))) (DE.dr (wN (DE.dr (dv 1)) (DE.dr zk))))) (DE.dr (dv 2))) (zb (xb (DE.dr (xb (DE.dr (uR (DE.dr (wN (DE.dr (dv 0)) (DE.dr zk))) (DE.dr (wN (DE.dr (dv 1)) (DE.dr zk))))) (DE.dr (uR (DE.dr (wN (DE.dr (dv 0)) (DE.dr zk))) (DE.dr (wN (DE.dr (dv 1)) (DE.dr zk))))))) (DE.dr (dv 2))) zl))))))
noncomputable def WJ : FS := (yY (tupF (za (wG Y4 (zc ixD (vF 0) (cF (.int 0)))) (za (wG Y4 (zc ixD (vF 0) (cF (.int 1)))) zw))))
noncomputable def wo : List D -> Option D := vL 1 WJ
theorem Kr : FnScope ["x"] ["x"] (zd qW) := ⟨rfl, rfl, rfl, by decide +kernel, rfl, by decide +kernel, by decide +kernel⟩
theorem K1 (Fn : Fun K "minus" "minus" qW f fd) (T : Txt K mg)  :
  FnOk P w K mg base CX0 1 f fd ["x"] (spF K 1 wo) :=
 yd (k := 0) (m := 1) (F := WJ) rfl rfl Fn Kr fun cdv A outer s H E hr => (zj (zJ (uQ (zb (Yu (DE.dr (wN (DE.dr (dv 0)) (DE.dr zk)))) (zb (Yu (DE.dr (wN (DE.dr (dv 0)) (DE.dr zk)))) zl)))))
noncomputable def wg : FS := (yb (ifS (blF (zc gtD (vF 0) (cF (.int 0)))) (yY (cF (.int 1))) nxF) (yb (ifS (blF (zc ltD (vF 0) (cF (.int 0)))) (yY (wG Y4 (cF (.int 1)))) nxF) (yY (cF (.int 0)))))
noncomputable def ym : List D -> Option D := vL 1 wg
theorem Z7 : FnScope ["number"] ["number"] (zd xv) := ⟨rfl, rfl, rfl, by decide +kernel, rfl, by decide +kernel, by decide +kernel⟩
theorem Yh (Fn : Fun K "whole_sign" "whole_sign" xv f fd) (T : Txt K mg)  :
  FnOk P w K mg base CX0 1 f fd ["number"] (spF K 1 ym) :=
 yd (k := 0) (m := 1) (F := wg) rfl rfl Fn Z7 fun cdv A outer s H E hr => (ze (wq (Cm (DE.dr (dv 0)) (DE.dr zk)) (zj (zJ zk)) yo) (ze (wq (Ck (DE.dr (dv 0)) (DE.dr zk)) (zj (zJ (Yu (DE.dr zk)))) yo) (zj (zJ zk))))
noncomputable def VP : FS := (yb (xh 1 (zN ym (za (zc ixD (vF 0) (cF (.int 0))) zw))) (yb (xh 2 (zN ym (za (zc ixD (vF 0) (cF (.int 1))) zw))) (yb (ifS (blF (zc geD (zc u5 (vF 1) (vF 2)) (cF (.int 0)))) (yY (zN ym (za (zc ue (vF 1) (vF 2)) zw))) nxF) (yb (xh 3 (zc jT (zc ue (zc u5 (zc ixD (vF 0) (cF (.int 0))) (zc ixD (vF 0) (cF (.int 0)))) (zc u5 (zc ixD (vF 0) (cF (.int 0))) (zc ixD (vF 0) (cF (.int 1))))) (zc u5 (zc ixD (vF 0) (cF (.int 1))) (zc ixD (vF 0) (cF (.int 1)))))) (yY (zc u5 (vF 1) (zN ym (za (vF 3) zw))))))))
noncomputable def qB : List D -> Option D := vL 4 VP
theorem Z8 : FnScope ["x", "whole", "golden", "product"] ["x"] (zd Zx) := ⟨rfl, rfl, rfl, by decide +kernel, rfl, by decide +kernel, by decide +kernel⟩
theorem BA (Fn : Fun K "sign" "sign" Zx f fd) (T : Txt K mg) (h_whole_sign : HasFn P w K mg base 1 "whole_sign" 1 ym) :
  FnOk P w K mg base CX0 2 f fd ["x"] (spF K 1 qB) :=
 yd (k := 1) (m := 4) (F := VP) rfl rfl Fn Z8 fun cdv A outer s H E hr => (ze (yh 1 Z8.nd (zo h_whole_sign (hr.mono (by decide)) rfl (zb (wN (DE.dr (dv 0)) (DE.dr zk)) zl) (zp z7))) (ze (yh 2 Z8.nd (zo h_whole_sign (hr.mono (by decide)) rfl (zb (wN (DE.dr (dv 0)) (DE.dr zk)) zl) (zp z7))) (ze (wq (Cn (DE.dr (uR (DE.dr (dv 1)) (DE.dr (dv 2)))) (DE.dr zk)) (zj (zJ (zo h_whole_sign (hr.mono (by decide)) rfl (zb (xb (DE.dr (dv 1)) (DE.dr (dv 2))) zl) (zp z7)))) yo) (ze (yh 3 Z8.nd (kK (DE.dr (xb (DE.dr (uR (DE.dr (wN (DE.dr (dv 0)) (DE.dr zk))) (DE.dr (wN (DE.dr (dv 0)) (DE.dr zk))))) (DE.dr (uR (DE.dr (wN (DE.dr (dv 0)) (DE.dr zk))) (DE.dr (wN (DE.dr (dv 0)) (DE.dr zk))))))) (DE.dr (uR (DE.dr (wN (DE.dr (dv 0)) (DE.dr zk))) (DE.dr (wN (DE.dr (dv 0)) (DE.dr zk))))))) (zj (zJ (uR (DE.dr (dv 1)) (DE.dr (zo h_whole_sign (hr.mono (by decide)) rfl (zb (dv 3) zl) (zp z7))))))))))
noncomputable def Zb : FS := (yb (xh 3 (zN K9 (za (vF 1) (za (vF 2) zw)))) (yb (xh 4 (zN QL (za (vF 1) (za (vF 2) zw)))) (yb (Wn (zM (zc ixD (vF 0) (cF (.int 1)))) (qQ 3 (yg (zu 5) (yg (zu 6) (yg (zu 7) jF)))) (ifS (XQ (blF (zc eqF (vF 5) (vF 3))) (blF (zc eqF (vF 6) (vF 4)))) (yY (vF 7)) nxF)) (yY (cF (.int 2))))))
noncomputable def yS : List D -> Option D := vL 8 Zb
theorem wH : FnScope ["house", "i", "j", "lesser", "greater", "first", "second", "m"] ["house", "i", "j"] (zd vj) := ⟨rfl, rfl, rfl, by decide +kernel, rfl, by decide +kernel, by decide +kernel⟩
theorem Ue (Fn : Fun K "turn_of" "turn_of" vj f fd) (T : Txt K mg)  :
  FnOk P w K mg base CX0 1 f fd ["house", "i", "j"] (spF K 3 yS) :=
 yd (k := 0) (m := 8) (F := Zb) rfl rfl Fn wH fun cdv A outer s H E hr => (ze (yh 3 wH.nd (xa (kQ rfl) Wo rfl T.min_b (by rfl) (zB (DE.dr (dv 1)) (zB (DE.dr (dv 2)) z6)))) (ze (yh 4 wH.nd (xa (qJ rfl) Yq rfl T.max_b (by rfl) (zB (DE.dr (dv 1)) (zB (DE.dr (dv 2)) z6)))) (ze (uX PassesOwn.never rfl (xO (wN (DE.dr (dv 0)) (DE.dr zk))) (uu rfl (z5 (zD 5 wH.nd) (z5 (zD 6 wH.nd) (z5 (zD 7 wH.nd) wW)))) (zj (wq (DW.dt (ZO (ud hr (DE.dr (dv 5)) (DE.dr (dv 3))) (jk (ud hr (DE.dr (dv 6)) (DE.dr (dv 4)))))) (zj (zJ (dv 7))) yo))) (zj (zJ (Xp rfl T.NOT_TOLD_c))))))
noncomputable def wZ : FS := (yb (ifS (blF (zc eqF (vF 1) (vF 2))) (yY (tupF (za (cF (.int 2)) (za (cF (.int 0)) zw)))) nxF) (yb (xh 3 (zN yS (za (vF 0) (za (vF 1) (za (vF 2) zw))))) (yb (ifS (XQ (blF (zc gtD (vF 1) (vF 2))) (blF (zc (inD false) (vF 3) (tupF (za (cF (.int 4)) (za (cF (.int 6)) zw)))))) (yY (tupF (za (wG Y4 (cF (.int 1))) (za (cF (.int 0)) zw)))) nxF) (yY (zN wo (za (wG (je [(0, (.tup [(.int 2), (.int 0)])), (2, (.tup [(.int 0), (.int 0)])), (3, (.tup [(.int 1), (.int 0)])), (4, (.tup [(.int 2), (.int 0)])), (5, (.tup [(.int 0), (.int 1)])), (6, (.tup [(.int 3), (.int 0)]))]) (vF 3)) zw))))))
noncomputable def y8 : List D -> Option D := vL 4 wZ
theorem U7 : FnScope ["house", "i", "j", "turn"] ["house", "i", "j"] (zd Zz) := ⟨rfl, rfl, rfl, by decide +kernel, rfl, by decide +kernel, by decide +kernel⟩
theorem BB (Fn : Fun K "pull" "pull" Zz f fd) (T : Txt K mg) (h_minus : HasFn P w K mg base 1 "minus" 1 wo) (h_turn_of : HasFn P w K mg base 1 "turn_of" 3 yS) :
  FnOk P w K mg base CX0 2 f fd ["house", "i", "j"] (spF K 3 y8) :=
 yd (k := 1) (m := 4) (F := wZ) rfl rfl Fn U7 fun cdv A outer s H E hr => (ze (wq (ud hr (DE.dr (dv 1)) (DE.dr (dv 2))) (zj (zJ (uQ (zb zk (zb zk zl))))) yo) (ze (yh 3 U7.nd (zo h_turn_of (hr.mono (by decide)) rfl (zb (dv 0) (zb (dv 1) (zb (dv 2) zl))) (zp (zp (zp z7))))) (ze (wq (DW.dt (ZO (Cm (DE.dr (dv 1)) (DE.dr (dv 2))) (jk (FZ hr (DE.dr (dv 3)) (DE.dr (uQ (zb zk (zb zk zl)))))))) (zj (zJ (uQ (zb (Yu (DE.dr zk)) (zb zk zl))))) yo) (zj (zJ (zo h_minus (hr.mono (by decide)) rfl (zb (CD rfl T.PULLS_BELOW_NOUGHT_c (DE.dr (dv 3))) zl) (zp z7)))))))
noncomputable def uA : FS := (yY (zT (xt 1 [1, 0] (zM (vF 2)) (zu 0) (XQ (blF (zc neF (vF 0) (vF 1))) (blF (zc neF (zN yS (za (vF 2) (za (vF 1) (za (vF 0) zw)))) (cF (.int 2))))) (vF 0))))
noncomputable def zS : List D -> Option D := vL 3 uA
theorem Z9 : FnScope ["house", "mirror", "others"] ["house", "mirror", "others"] (zd xw) := ⟨rfl, rfl, rfl, by decide +kernel, rfl, by decide +kernel, by decide +kernel⟩
theorem Yi (Fn : Fun K "neighbours" "neighbours" xw f fd) (T : Txt K mg) (h_turn_of : HasFn P w K mg base 1 "turn_of" 3 yS) :
  FnOk P w K mg base CX0 2 f fd ["house", "mirror", "others"] (spF K 3 zS) :=
 yd (k := 1) (m := 3) (F := uA) rfl rfl Fn Z9 fun cdv A outer s H E hr => (zj (zJ (DN.de (xM (own := ["other"]) (frees := ["mirror", "house"]) (caps := [1, 0]) rfl (.of (by kernel_rfl)) rfl yk (xO (dv 2)) (fun cl C s H fp => ⟨(zD 0 (show List.Nodup (["other", "mirror", "house"] : List Str) from by decide +kernel)), (ZP (DW.dt (ZO (Ys hr (DE.dr (dv 0)) (DE.dr (dv 1))) (jk (Ys hr (DE.dr (zo h_turn_of (hr.mono (by decide)) rfl (zb (dv 2) (zb (dv 1) (zb (dv 0) zl))) (zp (zp (zp z7))))) (DE.dr (Xp rfl T.NOT_TOLD_c))))))), (dv 0)⟩)))))
noncomputable def Za : FS := (yY (zT (xt 1 [1] (zM (vF 0)) (zu 0) (blF (zc neF (vF 0) (vF 1))) (vF 0))))
noncomputable def yK : List D -> Option D := vL 2 Za
theorem V2 : FnScope ["mirrors", "mirror"] ["mirrors", "mirror"] (zd vi) := ⟨rfl, rfl, rfl, by decide +kernel, rfl, by decide +kernel, by decide +kernel⟩
theorem Ud (Fn : Fun K "without" "without" vi f fd) (T : Txt K mg)  :
  FnOk P w K mg base CX0 1 f fd ["mirrors", "mirror"] (spF K 2 yK) :=
 yd (k := 0) (m := 2) (F := Za) rfl rfl Fn V2 fun cdv A outer s H E hr => (zj (zJ (DN.de (xM (own := ["other"]) (frees := ["mirror"]) (caps := [1]) rfl (.of (by kernel_rfl)) rfl yk (xO (dv 0)) (fun cl C s H fp => ⟨(zD 0 (show List.Nodup (["other", "mirror"] : List Str) from by decide +kernel)), (ZP (Ys hr (DE.dr (dv 0)) (DE.dr (dv 1)))), (dv 0)⟩)))))
noncomputable def Zc : FS := (yb (VL 2 (Zm (za (vF 1) zw))) (yb (xh 3 (zN yK (za (zT (Qe (za (zc ixD (vF 0) (cF (.int 0))) zw))) (za (vF 1) zw)))) (yb (xh 4 (cF (.int 0))) (yb (xi (blF (zc ltD (vF 4) (zN Y9 (za (vR 2) zw)))) (yb (xh 5 (zN zS (za (vF 0) (za (zc ixD (vR 2) (vF 4)) (za (vF 3) zw))))) (yb (jj 2 (vF 5)) (yb (xh 3 (zT (xt 1 [5] (zM (vF 3)) (zu 0) (blF (zc (inD true) (vF 0) (vF 1))) (vF 0)))) (Ms 4 (fun i j => i + j) (cF (.int 1)))))) 100000) (yY (zT (Kk (za (vR 2) zw))))))))
noncomputable def wV : List D -> Option D := vL 6 Zc
theorem xP : FnScope ["house", "mirror", "part", "left", "place", "near"] ["house", "mirror"] (zd vk) := ⟨rfl, rfl, rfl, by decide +kernel, rfl, by decide +kernel, by decide +kernel⟩
theorem Ug (Fn : Fun K "part_of" "part_of" vk f fd) (T : Txt K mg) (h_neighbours : HasFn P w K mg base 2 "neighbours" 3 zS) (h_without : HasFn P w K mg base 1 "without" 2 yK) :
  FnOk P w K mg base CX0 3 f fd ["house", "mirror"] (spF K 2 wV) :=
 yd (k := 2) (m := 6) (F := Zc) rfl rfl Fn xP fun cdv A outer s H E hr => (ze (jm 2 xP.nd (ub (zb (dv 1) zl))) (ze (yh 3 xP.nd (zo h_without (hr.mono (by decide)) rfl (zb (DN.de (Jr rfl rfl T.list_b rfl T.range_b (zB (DE.dr (wN (DE.dr (dv 0)) (DE.dr zk))) z6))) (zb (dv 1) zl)) (zp (zp z7)))) (ze (yh 4 xP.nd zk) (ze (VC 100000 PassesOwn.never (Ck (DE.dr (dv 4)) (DE.dr (xa wX u6 rfl T.len_b (by rfl) (zB (dvr 2) z6)))) (ze (yh 5 xP.nd (zo h_neighbours (hr.mono (by decide)) rfl (zb (dv 0) (zb (wN (dvr 2) (DE.dr (dv 4))) (zb (dv 3) zl))) (zp (zp (zp z7))))) (ze (Xn 2 (dv 5)) (ze (vJ 3 xP.nd (own := ["other"]) (frees := ["near"]) (caps := [5]) rfl (.of (by kernel_rfl)) rfl yk (xO (dv 3)) (fun cl C s H fp => ⟨(zD 0 (show List.Nodup (["other", "near"] : List Str) from by decide +kernel)), (ZP (GD hr (DE.dr (dv 0)) (DE.dr (dv 1)))), (dv 0)⟩)) (zj (Cs 4 xP.nd FM zk)))))) (zj (zJ (DN.de (Jq rfl T.sorted_b (zB (dvr 2) z6)))))))))
noncomputable def WI : FS := (yb (xh 1 (zT (xt 1 [0] (J3 (za (zc ixD (vF 0) (cF (.int 0))) zw)) (zu 0) ttF (zN wV (za (vF 1) (za (vF 0) zw)))))) (yY (zT (xt 2 [] (ky (vF 1)) (qQ 2 (yg (zu 0) (yg (zu 1) jF))) (blF (zc eqF (zc ixD (vF 1) (cF (.int 0))) (vF 0))) (vF 1)))))
noncomputable def jh : List D -> Option D := vL 2 WI
theorem WZ : FnScope ["house", "reached"] ["house"] (zd qV) := ⟨rfl, rfl, rfl, by decide +kernel, rfl, by decide +kernel, by decide +kernel⟩
theorem K0 (Fn : Fun K "parts" "parts" qV f fd) (T : Txt K mg) (h_part_of : HasFn P w K mg base 3 "part_of" 2 wV) :
  FnOk P w K mg base CX0 4 f fd ["house"] (spF K 1 jh) :=
 yd (k := 3) (m := 2) (F := WI) rfl rfl Fn WZ fun cdv A outer s H E hr => (ze (vJ 1 WZ.nd (own := ["mirror"]) (frees := ["house"]) (caps := [0]) rfl (.of (by kernel_rfl)) rfl yk (vK rfl T.range_b (zB (DE.dr (wN (DE.dr (dv 0)) (DE.dr zk))) z6)) (fun cl C s H fp => ⟨(zD 0 (show List.Nodup (["mirror", "house"] : List Str) from by decide +kernel)), w9, (zo h_part_of (hr.mono (by decide)) rfl (zb (dv 1) (zb (dv 0) zl)) (zp (zp z7)))⟩)) (zj (zJ (DN.de (xM (own := ["mirror", "part"]) (frees := []) (caps := []) rfl (.of (by kernel_rfl)) rfl (Xc (xI yk (xI yk kr))) (Wt rfl T.enumerate_b (dv 1)) (fun cl C s H fp => ⟨(uu rfl (z5 (zD 0 (show List.Nodup (["mirror", "part"] : List Str) from by decide +kernel)) (z5 (zD 1 (show List.Nodup (["mirror", "part"] : List Str) from by decide +kernel)) wW))), (ZP (ud hr (DE.dr (wN (DE.dr (dv 1)) (DE.dr zk))) (DE.dr (dv 0)))), (dv 1)⟩))))))
noncomputable def uB : FS := (yb (VL 3 (Zm (za (vF 2) zw))) (yb (xh 4 (zN yK (za (vF 1) (za (vF 2) zw)))) (yb (xi (blF (zc gtD (zN Y9 (za (vF 4) zw)) (cF (.int 0)))) (yb (xh 5 (zN zS (za (vF 0) (za (zc ixD (vR 3) (wG Y4 (cF (.int 1)))) (za (vF 4) zw))))) (yb (ifS (blF (zc neF (zN Y9 (za (vF 5) zw)) (cF (.int 1)))) (yY (cF .non)) nxF) (yb (vd 3 (zc ixD (vF 5) (cF (.int 0)))) (xh 4 (zN yK (za (vF 4) (za (zc ixD (vF 5) (cF (.int 0))) zw))))))) 100000) (Wm 3 (yY (vF 3))))))
noncomputable def yL : List D -> Option D := vL 6 uB
theorem xF : FnScope ["house", "mirrors", "first", "order", "left", "near"] ["house", "mirrors", "first"] (zd xx) := ⟨rfl, rfl, rfl, by decide +kernel, rfl, by decide +kernel, by decide +kernel⟩
theorem Yj (Fn : Fun K "chain_from" "chain_from" xx f fd) (T : Txt K mg) (h_neighbours : HasFn P w K mg base 2 "neighbours" 3 zS) (h_without : HasFn P w K mg base 1 "without" 2 yK) :
  FnOk P w K mg base CX0 3 f fd ["house", "mirrors", "first"] (spF K 3 yL) :=
 yd (k := 2) (m := 6) (F := uB) rfl rfl Fn xF fun cdv A outer s H E hr => (ze (jm 3 xF.nd (ub (zb (dv 2) zl))) (ze (yh 4 xF.nd (zo h_without (hr.mono (by decide)) rfl (zb (dv 1) (zb (dv 2) zl)) (zp (zp z7)))) (ze (VC 100000 PassesOwn.never (Cm (DE.dr (xa wX u6 rfl T.len_b (by rfl) (zB (DE.dr (dv 4)) z6))) (DE.dr zk)) (ze (yh 5 xF.nd (zo h_neighbours (hr.mono (by decide)) rfl (zb (dv 0) (zb (wN (dvr 3) (DE.dr (Yu (DE.dr zk)))) (zb (dv 4) zl))) (zp (zp (zp z7))))) (ze (wq (Ys hr (DE.dr (xa wX u6 rfl T.len_b (by rfl) (zB (DE.dr (dv 5)) z6))) (DE.dr zk)) (zj (zJ CC)) yo) (ze (qF 3 (wN (DE.dr (dv 5)) (DE.dr zk))) (zj (yh 4 xF.nd (zo h_without (hr.mono (by decide)) rfl (zb (dv 4) (zb (wN (DE.dr (dv 5)) (DE.dr zk)) zl)) (zp (zp z7))))))))) (qe 3 (zj (zJ (dv 3)))))))
noncomputable def YE : FS := (yb (xh 2 (zT (xt 1 [0, 1] (zM (vF 1)) (zu 0) ttF (zN yL (za (vF 1) (za (vF 2) (za (vF 0) zw))))))) (yY (zT (xt 1 [] (zM (vF 2)) (zu 0) (blF (zc (isD true) (vF 0) (cF .non))) (vF 0)))))
noncomputable def wB : List D -> Option D := vL 3 YE
theorem YR : FnScope ["house", "mirrors", "orders"] ["house", "mirrors"] (zd uI) := ⟨rfl, rfl, rfl, by decide +kernel, rfl, by decide +kernel, by decide +kernel⟩
theorem QB (Fn : Fun K "chains" "chains" uI f fd) (T : Txt K mg) (h_chain_from : HasFn P w K mg base 3 "chain_from" 3 yL) :
  FnOk P w K mg base CX0 4 f fd ["house", "mirrors"] (spF K 2 wB) :=
 yd (k := 3) (m := 3) (F := YE) rfl rfl Fn YR fun cdv A outer s H E hr => (ze (vJ 2 YR.nd (own := ["first"]) (frees := ["house", "mirrors"]) (caps := [0, 1]) rfl (.of (by kernel_rfl)) rfl yk (xO (dv 1)) (fun cl C s H fp => ⟨(zD 0 (show List.Nodup (["first", "house", "mirrors"] : List Str) from by decide +kernel)), w9, (zo h_chain_from (hr.mono (by decide)) rfl (zb (dv 1) (zb (dv 2) (zb (dv 0) zl))) (zp (zp (zp z7))))⟩)) (zj (zJ (DN.de (xM (own := ["order"]) (frees := []) (caps := []) rfl (.of (by kernel_rfl)) rfl yk (xO (dv 2)) (fun cl C s H fp => ⟨(zD 0 (show List.Nodup (["order"] : List Str) from by decide +kernel)), (ZP (GE (DE.dr (dv 0)) (DE.dr CC))), (dv 0)⟩))))))
noncomputable def vY : FS := (yY (zT (xt 2 [0] (Xf (vF 1) (jx (vF 1) (exP (cF (.int 1))) noP)) (qQ 2 (yg (zu 0) (yg (zu 1) jF))) ttF (zN yS (za (vF 2) (za (vF 0) (za (vF 1) zw)))))))
noncomputable def yO : List D -> Option D := vL 2 vY
theorem Zk : FnScope ["house", "order"] ["house", "order"] (zd xf) := ⟨rfl, rfl, rfl, by decide +kernel, rfl, by decide +kernel, by decide +kernel⟩
theorem Zl (Fn : Fun K "turns_along" "turns_along" xf f fd) (T : Txt K mg) (h_turn_of : HasFn P w K mg base 1 "turn_of" 3 yS) :
  FnOk P w K mg base CX0 2 f fd ["house", "order"] (spF K 2 yO) :=
 yd (k := 1) (m := 2) (F := vY) rfl rfl Fn Zk fun cdv A outer s H E hr => (zj (zJ (DN.de (xM (own := ["i", "j"]) (frees := ["house"]) (caps := [0]) rfl (.of (by kernel_rfl)) rfl (Xc (xI yk (xI yk kr))) (Ho rfl T.zip_b (dv 1) (Yt (DE.dr (dv 1)) (Jp (DE.dr zk)) Cu)) (fun cl C s H fp => ⟨(uu rfl (z5 (zD 0 (show List.Nodup (["i", "j", "house"] : List Str) from by decide +kernel)) (z5 (zD 1 (show List.Nodup (["i", "j", "house"] : List Str) from by decide +kernel)) wW))), w9, (zo h_turn_of (hr.mono (by decide)) rfl (zb (dv 2) (zb (dv 0) (zb (dv 1) zl))) (zp (zp (zp z7))))⟩)))))
noncomputable def w5 : FS := (yb (xh 1 (zc ue (zN Y9 (za (vF 0) zw)) (cF (.int 1)))) (yb (ifS (blF (zc eqF (vF 0) (zT (Hi (zT (Zm (za (cF (.int 3)) zw))) (zc jT (vF 1) (cF (.int 1))))))) (yY (jQ (UM "a" (J6 (vF 1) J5)))) nxF) (yb (ifS (blF (zc eqF (vF 0) (zc ue (zT (Hi (zT (Zm (za (cF (.int 3)) zw))) (zc jT (vF 1) (cF (.int 2))))) (zT (Zm (za (cF (.int 4)) zw)))))) (yY (jQ (UM "b" (J6 (vF 1) J5)))) nxF) (yY (zc (C0 [([3, 4, 3], (.str "f4")), ([3, 5], (.str "h3")), ([3, 3, 5], (.str "h4")), ([5], (.str "i5")), ([6], (.str "i6"))]) (zN ql (za (vF 0) zw)) (cF (.str "-")))))))
noncomputable def yn : List D -> Option D := vL 2 w5
theorem vZ : FnScope ["turns", "mirrors"] ["turns"] (zd yI) := ⟨rfl, rfl, rfl, by decide +kernel, rfl, by decide +kernel, by decide +kernel⟩
theorem jO (Fn : Fun K "kind_of_chain" "kind_of_chain" yI f fd) (T : Txt K mg)  :
  FnOk P w K mg base CX0 1 f fd ["turns"] (spF K 1 yn) :=
 yd (k := 0) (m := 2) (F := w5) rfl rfl Fn vZ fun cdv A outer s H E hr => (ze (yh 1 vZ.nd (xb (DE.dr (xa wX u6 rfl T.len_b (by rfl) (zB (DE.dr (dv 0)) z6))) (DE.dr zk))) (ze (wq (ud hr (DE.dr (dv 0)) (DE.dr (DN.de (Ws (DE.dr (DN.de (ub (zb (Xp rfl T.COMMON_TURN_c) zl)))) (DE.dr (kK (DE.dr (dv 1)) (DE.dr zk))))))) (zj (zJ (Jy (Ju (Jt (DE.dr (dv 1)) Js))))) yo) (ze (wq (ud hr (DE.dr (dv 0)) (DE.dr (xb (DE.dr (DN.de (Ws (DE.dr (DN.de (ub (zb (Xp rfl T.COMMON_TURN_c) zl)))) (DE.dr (kK (DE.dr (dv 1)) (DE.dr zk)))))) (DE.dr (DN.de (ub (zb zk zl))))))) (zj (zJ (Jy (Ju (Jt (DE.dr (dv 1)) Js))))) yo) (zj (zJ (Mh hr rfl T.RARE_CHAINS_c (jY wF qC rfl T.tuple_b (by rfl) (zB (DE.dr (dv 0)) z6)) (Xo rfl T.NO_KIND_c)))))))
noncomputable def yW : FS := (yb (xh 2 (zc ue (zN Y9 (za (vF 0) zw)) (cF (.int 1)))) (yb (ifS (XQ (blF (zc geD (vF 2) (cF (.int 4)))) (blF (zc eqF (zc ixD (vF 0) (cF (.int 1))) (vF 1)))) (yY (jQ (UM "d" (J6 (vF 2) J5)))) nxF) (yb (ifS (XQ (blF (zc eqF (vF 2) (cF (.int 6)))) (blF (zc eqF (zc ixD (vF 0) (cF (.int 2))) (vF 1)))) (yY (cF (.str "e6"))) nxF) (yY (cF (.str "-"))))))
noncomputable def zC : List D -> Option D := vL 3 yW
theorem xE : FnScope ["order", "mirror", "mirrors"] ["order", "mirror"] (zd zX) := ⟨rfl, rfl, rfl, by decide +kernel, rfl, by decide +kernel, by decide +kernel⟩
theorem vQ (Fn : Fun K "kind_with_one_beside" "kind_with_one_beside" zX f fd) (T : Txt K mg)  :
  FnOk P w K mg base CX0 1 f fd ["order", "mirror"] (spF K 2 zC) :=
 yd (k := 0) (m := 3) (F := yW) rfl rfl Fn xE fun cdv A outer s H E hr => (ze (yh 2 xE.nd (xb (DE.dr (xa wX u6 rfl T.len_b (by rfl) (zB (DE.dr (dv 0)) z6))) (DE.dr zk))) (ze (wq (DW.dt (ZO (Cn (DE.dr (dv 2)) (DE.dr zk)) (jk (ud hr (DE.dr (wN (DE.dr (dv 0)) (DE.dr zk))) (DE.dr (dv 1)))))) (zj (zJ (Jy (Ju (Jt (DE.dr (dv 2)) Js))))) yo) (ze (wq (DW.dt (ZO (ud hr (DE.dr (dv 2)) (DE.dr zk)) (jk (ud hr (DE.dr (wN (DE.dr (dv 0)) (DE.dr zk))) (DE.dr (dv 1)))))) (zj (zJ Ny)) yo) (zj (zJ (Xo rfl T.NO_KIND_c))))))
noncomputable def xY : FS := (yY (zT (xt 1 [0] (zM (zN wB (za (vF 0) (za (vF 1) zw)))) (zu 0) ttF (zN yn (za (zN yO (za (vF 1) (za (vF 0) zw))) zw)))))
noncomputable def yu : List D -> Option D := vL 2 xY
theorem qp : FnScope ["house", "part"] ["house", "part"] (zd yt) := ⟨rfl, rfl, rfl, by decide +kernel, rfl, by decide +kernel, by decide +kernel⟩
theorem qw (Fn : Fun K "kinds_by_chains" "kinds_by_chains" yt f fd) (T : Txt K mg) (h_chains : HasFn P w K mg base 4 "chains" 2 wB) (h_kind_of_chain : HasFn P w K mg base 1 "kind_of_chain" 1 yn) (h_turns_along : HasFn P w K mg base 2 "turns_along" 2 yO) :
  FnOk P w K mg base CX0 5 f fd ["house", "part"] (spF K 2 yu) :=
 yd (k := 4) (m := 2) (F := xY) rfl rfl Fn qp fun cdv A outer s H E hr => (zj (zJ (DN.de (xM (own := ["order"]) (frees := ["house"]) (caps := [0]) rfl (.of (by kernel_rfl)) rfl yk (xO (zo h_chains (hr.mono (by decide)) rfl (zb (dv 0) (zb (dv 1) zl)) (zp (zp z7)))) (fun cl C s H fp => ⟨(zD 0 (show List.Nodup (["order", "house"] : List Str) from by decide +kernel)), w9, (zo h_kind_of_chain (hr.mono (by decide)) rfl (zb (zo h_turns_along (hr.mono (by decide)) rfl (zb (dv 1) (zb (dv 0) zl)) (zp (zp z7))) zl) (zp z7))⟩)))))
noncomputable def ve : FS := (yY (zN Mw (za (zT (xt 3 [1] (zM (zc ixD (vF 0) (cF (.int 1)))) (qQ 3 (yg (zu 0) (yg (zu 1) (yg (zu 2) jF)))) (blF (zc (inD false) (vF 0) (vF 3))) (zc eqF (vF 2) (cF (.int 3))))) zw)))
noncomputable def yq : List D -> Option D := vL 2 ve
theorem j6 : FnScope ["house", "part"] ["house", "part"] (zd yU) := ⟨rfl, rfl, rfl, by decide +kernel, rfl, by decide +kernel, by decide +kernel⟩
theorem kc (Fn : Fun K "all_by_three" "all_by_three" yU f fd) (T : Txt K mg)  :
  FnOk P w K mg base CX0 1 f fd ["house", "part"] (spF K 2 yq) :=
 yd (k := 0) (m := 2) (F := ve) rfl rfl Fn j6 fun cdv A outer s H E hr => (zj (zJ (xa (VG rfl) Jc rfl T.all_b (by rfl) (zB (DE.dr (DN.de (xM (own := ["i", "j", "m"]) (frees := ["part"]) (caps := [1]) rfl (.of (by kernel_rfl)) rfl (Xc (xI yk (xI yk (xI yk kr)))) (xO (wN (DE.dr (dv 0)) (DE.dr zk))) (fun cl C s H fp => ⟨(uu rfl (z5 (zD 0 (show List.Nodup (["i", "j", "m", "part"] : List Str) from by decide +kernel)) (z5 (zD 1 (show List.Nodup (["i", "j", "m", "part"] : List Str) from by decide +kernel)) (z5 (zD 2 (show List.Nodup (["i", "j", "m", "part"] : List Str) from by decide +kernel)) wW)))), (ZP (FZ hr (DE.dr (dv 0)) (DE.dr (dv 3)))), (NC hr (DE.dr (dv 2)) (DE.dr (Xp rfl T.COMMON_TURN_c)))⟩)))) z6))))
noncomputable def w4 : FS := (yb (VL 2 (Zm zw)) (yb (ifS (BI (blF (zN yq (za (vF 0) (za (vF 1) zw))))) (Wm 2 (yY (vF 2))) nxF) (yb (Wn (zM (vF 1)) (zu 3) (yb (xh 4 (zN zS (za (vF 0) (za (vF 3) (za (vF 1) zw))))) (ifS (blF (zc eqF (zN Y9 (za (vF 4) zw)) (cF (.int 1)))) (yb (xh 5 (zN wB (za (vF 0) (za (zN yK (za (vF 1) (za (vF 3) zw))) zw)))) (jj 2 (zT (xt 1 [4] (zM (vF 5)) (zu 0) ttF (zN zC (za (vF 0) (za (zc ixD (vF 1) (cF (.int 0))) zw))))))) nxF))) (Wm 2 (yY (vF 2))))))
noncomputable def yv : List D -> Option D := vL 6 w4
theorem yQ : FnScope ["house", "part", "told", "end", "near", "orders"] ["house", "part"] (zd yH) := ⟨rfl, rfl, rfl, by decide +kernel, rfl, by decide +kernel, by decide +kernel⟩
theorem jN (Fn : Fun K "kinds_by_ends" "kinds_by_ends" yH f fd) (T : Txt K mg) (h_all_by_three : HasFn P w K mg base 1 "all_by_three" 2 yq) (h_chains : HasFn P w K mg base 4 "chains" 2 wB) (h_kind_with_one_beside : HasFn P w K mg base 1 "kind_with_one_beside" 2 zC) (h_neighbours : HasFn P w K mg base 2 "neighbours" 3 zS) (h_without : HasFn P w K mg base 1 "without" 2 yK) :
  FnOk P w K mg base CX0 5 f fd ["house", "part"] (spF K 2 yv) :=
 yd (k := 4) (m := 6) (F := w4) rfl rfl Fn yQ fun cdv A outer s H E hr => (ze (jm 2 yQ.nd (ub zl)) (ze (wq (Jl (VB (DE.dr (zo h_all_by_three (hr.mono (by decide)) rfl (zb (dv 0) (zb (dv 1) zl)) (zp (zp z7)))))) (qe 2 (zj (zJ (dv 2)))) yo) (ze (uX PassesOwn.never rfl (xO (dv 1)) (zD 3 yQ.nd) (ze (yh 4 yQ.nd (zo h_neighbours (hr.mono (by decide)) rfl (zb (dv 0) (zb (dv 3) (zb (dv 1) zl))) (zp (zp (zp z7))))) (zj (wq (ud hr (DE.dr (xa wX u6 rfl T.len_b (by rfl) (zB (DE.dr (dv 4)) z6))) (DE.dr zk)) (ze (yh 5 yQ.nd (zo h_chains (hr.mono (by decide)) rfl (zb (dv 0) (zb (zo h_without (hr.mono (by decide)) rfl (zb (dv 1) (zb (dv 3) zl)) (zp (zp z7))) zl)) (zp (zp z7)))) (zj (Xn 2 (DN.de (xM (own := ["order"]) (frees := ["near"]) (caps := [4]) rfl (.of (by kernel_rfl)) rfl yk (xO (dv 5)) (fun cl C s H fp => ⟨(zD 0 (show List.Nodup (["order", "near"] : List Str) from by decide +kernel)), w9, (zo h_kind_with_one_beside (hr.mono (by decide)) rfl (zb (dv 0) (zb (wN (DE.dr (dv 1)) (DE.dr zk)) zl)) (zp (zp z7)))⟩)))))) yo)))) (qe 2 (zj (zJ (dv 2)))))))
noncomputable def Zg : FS := (yb (Wn (zM (zc ue (zN yu (za (vF 0) (za (vF 1) zw))) (zN yv (za (vF 0) (za (vF 1) zw))))) (zu 2) (ifS (blF (zc neF (vF 2) (cF (.str "-")))) (yY (vF 2)) nxF)) (yY (cF (.str "-"))))
noncomputable def y9 : List D -> Option D := vL 3 Zg
theorem Zw : FnScope ["house", "part", "kind"] ["house", "part"] (zd vq) := ⟨rfl, rfl, rfl, by decide +kernel, rfl, by decide +kernel, by decide +kernel⟩
theorem Ul (Fn : Fun K "kind_of" "kind_of" vq f fd) (T : Txt K mg) (h_kinds_by_chains : HasFn P w K mg base 5 "kinds_by_chains" 2 yu) (h_kinds_by_ends : HasFn P w K mg base 5 "kinds_by_ends" 2 yv) :
  FnOk P w K mg base CX0 6 f fd ["house", "part"] (spF K 2 y9) :=
 yd (k := 5) (m := 3) (F := Zg) rfl rfl Fn Zw fun cdv A outer s H E hr => (ze (uX PassesOwn.never rfl (xO (xb (DE.dr (zo h_kinds_by_chains (hr.mono (by decide)) rfl (zb (dv 0) (zb (dv 1) zl)) (zp (zp z7)))) (DE.dr (zo h_kinds_by_ends (hr.mono (by decide)) rfl (zb (dv 0) (zb (dv 1) zl)) (zp (zp z7)))))) (zD 2 Zw.nd) (zj (wq (Ys hr (DE.dr (dv 2)) (DE.dr (Xo rfl T.NO_KIND_c))) (zj (zJ (dv 2))) yo))) (zj (zJ (Xo rfl T.NO_KIND_c))))
noncomputable def WK : FS := (yY (zT (xt 1 [0] (zM (zN jh (za (vF 0) zw))) (zu 0) ttF (tupF (za (vF 0) (za (zN y9 (za (vF 1) (za (vF 0) zw))) zw))))))
noncomputable def ji : List D -> Option D := vL 1 WK
theorem Ks : FnScope ["house"] ["house"] (zd qY) := ⟨rfl, rfl, rfl, by decide +kernel, rfl, by decide +kernel, by decide +kernel⟩
theorem K3 (Fn : Fun K "kinds" "kinds" qY f fd) (T : Txt K mg) (h_kind_of : HasFn P w K mg base 6 "kind_of" 2 y9) (h_parts : HasFn P w K mg base 4 "parts" 1 jh) :
  FnOk P w K mg base CX0 7 f fd ["house"] (spF K 1 ji) :=
 yd (k := 6) (m := 1) (F := WK) rfl rfl Fn Ks fun cdv A outer s H E hr => (zj (zJ (DN.de (xM (own := ["part"]) (frees := ["house"]) (caps := [0]) rfl (.of (by kernel_rfl)) rfl yk (xO (zo h_parts (hr.mono (by decide)) rfl (zb (dv 0) zl) (zp z7))) (fun cl C s H fp => ⟨(zD 0 (show List.Nodup (["part", "house"] : List Str) from by decide +kernel)), w9, (uQ (zb (dv 0) (zb (zo h_kind_of (hr.mono (by decide)) rfl (zb (dv 1) (zb (dv 0) zl)) (zp (zp z7))) zl)))⟩)))))
noncomputable def Zh : FS := (yb (Wn (zM (zN ji (za (vF 0) zw))) (qQ 2 (yg (zu 1) (yg (zu 2) jF))) (ifS (blF (zc eqF (vF 2) (cF (.str "-")))) (yY (zN ql (za (vF 1) zw))) nxF)) (yY (cF .non)))
noncomputable def vI : List D -> Option D := vL 3 Zh
theorem qT : FnScope ["house", "part", "kind"] ["house"] (zd vw) := ⟨rfl, rfl, rfl, by decide +kernel, rfl, by decide +kernel, by decide +kernel⟩
theorem Um (Fn : Fun K "endless" "endless" vw f fd) (T : Txt K mg) (h_kinds : HasFn P w K mg base 7 "kinds" 1 ji) :
  FnOk P w K mg base CX0 8 f fd ["house"] (spF K 1 vI) :=
 yd (k := 7) (m := 3) (F := Zh) rfl rfl Fn qT fun cdv A outer s H E hr => (ze (uX PassesOwn.never rfl (xO (zo h_kinds (hr.mono (by decide)) rfl (zb (dv 0) zl) (zp z7))) (uu rfl (z5 (zD 1 qT.nd) (z5 (zD 2 qT.nd) wW))) (zj (wq (ud hr (DE.dr (dv 2)) (DE.dr (Xo rfl T.NO_KIND_c))) (zj (zJ (jY wF qC rfl T.tuple_b (by rfl) (zB (DE.dr (dv 1)) z6)))) yo))) (zj (zJ CC)))
noncomputable def YA : FS := (yY (zN ql (za (zT (xt 1 [1] (J3 (za (zc ixD (vF 0) (cF (.int 0))) zw)) (zu 0) ttF (ifF (blF (zc eqF (vF 0) (vF 1))) (cF (.tup [(.int 1), (.int 0)])) (cF (.tup [(.int 0), (.int 0)]))))) zw)))
noncomputable def xg : List D -> Option D := vL 2 YA
theorem U6 : FnScope ["house", "i"] ["house", "i"] (zd uF) := ⟨rfl, rfl, rfl, by decide +kernel, rfl, by decide +kernel, by decide +kernel⟩
theorem Qy (Fn : Fun K "simple" "simple" uF f fd) (T : Txt K mg)  :
  FnOk P w K mg base CX0 1 f fd ["house", "i"] (spF K 2 xg) :=
 yd (k := 0) (m := 2) (F := YA) rfl rfl Fn U6 fun cdv A outer s H E hr => (zj (zJ (jY wF qC rfl T.tuple_b (by rfl) (zB (DE.dr (DN.de (xM (own := ["j"]) (frees := ["i"]) (caps := [1]) rfl (.of (by kernel_rfl)) rfl yk (vK rfl T.range_b (zB (DE.dr (wN (DE.dr (dv 0)) (DE.dr zk))) z6)) (fun cl C s H fp => ⟨(zD 0 (show List.Nodup (["j", "i"] : List Str) from by decide +kernel)), w9, (JA (ud hr (DE.dr (dv 0)) (DE.dr (dv 1))) (JB rfl T.ONE_c) (JB rfl T.NOUGHT_c))⟩)))) z6))))
noncomputable def jt : FS := (yb (xh 3 (cF (.tup [(.int 0), (.int 0)]))) (yb (Wn (ky (vF 2)) (qQ 2 (yg (zu 4) (yg (zu 5) jF))) (xh 3 (zN v8 (za (vF 3) (za (zN wU (za (zN y8 (za (vF 0) (za (vF 1) (za (vF 4) zw)))) (za (vF 5) zw))) zw))))) (yY (zc ue (zc ue (jx (vF 2) noP (exP (vF 1))) (tupF (za (zN v8 (za (zc ixD (vF 2) (vF 1)) (za (zN wo (za (vF 3) zw)) zw))) zw))) (jx (vF 2) (exP (zc ue (vF 1) (cF (.int 1)))) noP)))))
noncomputable def xS : List D -> Option D := vL 6 jt
theorem wQ : FnScope ["house", "i", "row", "less", "j", "number"] ["house", "i", "row"] (zd wI) := ⟨rfl, rfl, rfl, by decide +kernel, rfl, by decide +kernel, by decide +kernel⟩
theorem X9 (Fn : Fun K "mirrored" "mirrored" wI f fd) (T : Txt K mg) (h_minus : HasFn P w K mg base 1 "minus" 1 wo) (h_plus : HasFn P w K mg base 1 "plus" 2 v8) (h_pull : HasFn P w K mg base 2 "pull" 3 y8) (h_times : HasFn P w K mg base 1 "times" 2 wU) :
  FnOk P w K mg base CX0 3 f fd ["house", "i", "row"] (spF K 3 xS) :=
 yd (k := 2) (m := 6) (F := jt) rfl rfl Fn wQ fun cdv A outer s H E hr => (ze (yh 3 wQ.nd (JB rfl T.NOUGHT_c)) (ze (uX PassesOwn.never rfl (Wt rfl T.enumerate_b (dv 2)) (uu rfl (z5 (zD 4 wQ.nd) (z5 (zD 5 wQ.nd) wW))) (zj (yh 3 wQ.nd (zo h_plus (hr.mono (by decide)) rfl (zb (dv 3) (zb (zo h_times (hr.mono (by decide)) rfl (zb (zo h_pull (hr.mono (by decide)) rfl (zb (dv 0) (zb (dv 1) (zb (dv 4) zl))) (zp (zp (zp z7)))) (zb (dv 5) zl)) (zp (zp z7))) zl)) (zp (zp z7)))))) (zj (zJ (xb (DE.dr (xb (DE.dr (Yt (DE.dr (dv 2)) Cu (Jp (DE.dr (dv 1))))) (DE.dr (uQ (zb (zo h_plus (hr.mono (by decide)) rfl (zb (wN (DE.dr (dv 2)) (DE.dr (dv 1))) (zb (zo h_minus (hr.mono (by decide)) rfl (zb (dv 3) zl) (zp z7)) zl)) (zp (zp z7))) zl))))) (DE.dr (Yt (DE.dr (dv 2)) (Jp (DE.dr (xb (DE.dr (dv 1)) (DE.dr zk)))) Cu)))))))
noncomputable def CU : FS := (yb (Wn (QZ (vF 1)) (zu 3) (xh 2 (zN xS (za (vF 0) (za (vF 3) (za (vF 2) zw)))))) (yY (vF 2)))
noncomputable def kF : List D -> Option D := vL 4 CU
theorem U9 : FnScope ["house", "word", "row", "mirror"] ["house", "word", "row"] (zd V7) := ⟨rfl, rfl, rfl, by decide +kernel, rfl, by decide +kernel, by decide +kernel⟩
theorem Fi (Fn : Fun K "led" "led" V7 f fd) (T : Txt K mg) (h_mirrored : HasFn P w K mg base 3 "mirrored" 3 xS) :
  FnOk P w K mg base CX0 4 f fd ["house", "word", "row"] (spF K 3 kF) :=
 yd (k := 3) (m := 4) (F := CU) rfl rfl Fn U9 fun cdv A outer s H E hr => (ze (uX PassesOwn.never rfl (Md rfl T.reversed_b (dv 1)) (zD 3 U9.nd) (zj (yh 2 U9.nd (zo h_mirrored (hr.mono (by decide)) rfl (zb (dv 0) (zb (dv 3) (zb (dv 2) zl))) (zp (zp (zp z7))))))) (zj (zJ (dv 2))))
noncomputable def YD : FS := (yY (zT (xt 1 [0, 1] (J3 (za (zc ixD (vF 0) (cF (.int 0))) zw)) (zu 0) ttF (zN kF (za (vF 1) (za (vF 2) (za (zN xg (za (vF 1) (za (vF 0) zw))) zw)))))))
noncomputable def uM : List D -> Option D := vL 2 YD
theorem Qa : FnScope ["house", "word"] ["house", "word"] (zd uH) := ⟨rfl, rfl, rfl, by decide +kernel, rfl, by decide +kernel, by decide +kernel⟩
theorem QA (Fn : Fun K "images" "images" uH f fd) (T : Txt K mg) (h_led : HasFn P w K mg base 4 "led" 3 kF) (h_simple : HasFn P w K mg base 1 "simple" 2 xg) :
  FnOk P w K mg base CX0 5 f fd ["house", "word"] (spF K 2 uM) :=
 yd (k := 4) (m := 2) (F := YD) rfl rfl Fn Qa fun cdv A outer s H E hr => (zj (zJ (DN.de (xM (own := ["i"]) (frees := ["house", "word"]) (caps := [0, 1]) rfl (.of (by kernel_rfl)) rfl yk (vK rfl T.range_b (zB (DE.dr (wN (DE.dr (dv 0)) (DE.dr zk))) z6)) (fun cl C s H fp => ⟨(zD 0 (show List.Nodup (["i", "house", "word"] : List Str) from by decide +kernel)), w9, (zo h_led (hr.mono (by decide)) rfl (zb (dv 1) (zb (dv 2) (zb (zo h_simple (hr.mono (by decide)) rfl (zb (dv 1) (zb (dv 0) zl)) (zp (zp z7))) zl))) (zp (zp (zp z7))))⟩)))))
noncomputable def Zd : FS := (yY (zN ql (za (zT (xt 2 [1] (Xf (vF 0) (vF 2)) (qQ 2 (yg (zu 0) (yg (zu 1) jF))) ttF (zN v8 (za (vF 0) (za (zN wo (za (zN wU (za (vF 2) (za (vF 1) zw))) zw)) zw))))) zw)))
noncomputable def x9 : List D -> Option D := vL 3 Zd
theorem V4 : FnScope ["row", "factor", "other"] ["row", "factor", "other"] (zd vm) := ⟨rfl, rfl, rfl, by decide +kernel, rfl, by decide +kernel, by decide +kernel⟩
theorem Uh (Fn : Fun K "less_by" "less_by" vm f fd) (T : Txt K mg) (h_minus : HasFn P w K mg base 1 "minus" 1 wo) (h_plus : HasFn P w K mg base 1 "plus" 2 v8) (h_times : HasFn P w K mg base 1 "times" 2 wU) :
  FnOk P w K mg base CX0 2 f fd ["row", "factor", "other"] (spF K 3 x9) :=
 yd (k := 1) (m := 3) (F := Zd) rfl rfl Fn V4 fun cdv A outer s H E hr => (zj (zJ (jY wF qC rfl T.tuple_b (by rfl) (zB (DE.dr (DN.de (xM (own := ["x", "y"]) (frees := ["factor"]) (caps := [1]) rfl (.of (by kernel_rfl)) rfl (Xc (xI yk (xI yk kr))) (Ho rfl T.zip_b (dv 0) (dv 2)) (fun cl C s H fp => ⟨(uu rfl (z5 (zD 0 (show List.Nodup (["x", "y", "factor"] : List Str) from by decide +kernel)) (z5 (zD 1 (show List.Nodup (["x", "y", "factor"] : List Str) from by decide +kernel)) wW))), w9, (zo h_plus (hr.mono (by decide)) rfl (zb (dv 0) (zb (zo h_minus (hr.mono (by decide)) rfl (zb (zo h_times (hr.mono (by decide)) rfl (zb (dv 2) (zb (dv 1) zl)) (zp (zp z7))) zl) (zp z7)) zl)) (zp (zp z7)))⟩)))) z6))))
noncomputable def xk : FS := (yY (zT (xt 2 [0, 2, 1] (ky (vF 1)) (qQ 2 (yg (zu 0) (yg (zu 1) jF))) ttF (zN x9 (za (vF 1) (za (zN y8 (za (vF 2) (za (vF 3) (za (vF 0) zw)))) (za (zc ixD (vF 4) (vF 3)) zw)))))))
noncomputable def zW : List D -> Option D := vL 3 xk
theorem uh : FnScope ["house", "rows", "i"] ["house", "rows", "i"] (zd z9) := ⟨rfl, rfl, rfl, by decide +kernel, rfl, by decide +kernel, by decide +kernel⟩
theorem uk (Fn : Fun K "images_with_behind" "images_with_behind" z9 f fd) (T : Txt K mg) (h_less_by : HasFn P w K mg base 2 "less_by" 3 x9) (h_pull : HasFn P w K mg base 2 "pull" 3 y8) :
  FnOk P w K mg base CX0 3 f fd ["house", "rows", "i"] (spF K 3 zW) :=
 yd (k := 2) (m := 3) (F := xk) rfl rfl Fn uh fun cdv A outer s H E hr => (zj (zJ (DN.de (xM (own := ["j", "row"]) (frees := ["house", "i", "rows"]) (caps := [0, 2, 1]) rfl (.of (by kernel_rfl)) rfl (Xc (xI yk (xI yk kr))) (Wt rfl T.enumerate_b (dv 1)) (fun cl C s H fp => ⟨(uu rfl (z5 (zD 0 (show List.Nodup (["j", "row", "house", "i", "rows"] : List Str) from by decide +kernel)) (z5 (zD 1 (show List.Nodup (["j", "row", "house", "i", "rows"] : List Str) from by decide +kernel)) wW))), w9, (zo h_less_by (hr.mono (by decide)) rfl (zb (dv 1) (zb (zo h_pull (hr.mono (by decide)) rfl (zb (dv 2) (zb (dv 3) (zb (dv 0) zl))) (zp (zp (zp z7)))) (zb (wN (DE.dr (dv 4)) (DE.dr (dv 3))) zl))) (zp (zp (zp z7))))⟩)))))
noncomputable def jv : FS := (yb (xh 1 (zT (xt 1 [] (zM (vF 0)) (zu 0) ttF (zN qB (za (vF 0) zw))))) (yY (Mv (zc (inD false) (cF (.int 1)) (vF 1)) (zc (inD true) (wG Y4 (cF (.int 1))) (vF 1)))))
noncomputable def xT : List D -> Option D := vL 2 jv
theorem j5 : FnScope ["row", "signs"] ["row"] (zd wK) := ⟨rfl, rfl, rfl, by decide +kernel, rfl, by decide +kernel, by decide +kernel⟩
theorem Wb (Fn : Fun K "is_above" "is_above" wK f fd) (T : Txt K mg) (h_sign : HasFn P w K mg base 2 "sign" 1 qB) :
  FnOk P w K mg base CX0 3 f fd ["row"] (spF K 1 xT) :=
 yd (k := 2) (m := 2) (F := jv) rfl rfl Fn j5 fun cdv A outer s H E hr => (ze (vJ 1 j5.nd (own := ["x"]) (frees := []) (caps := []) rfl (.of (by kernel_rfl)) rfl yk (xO (dv 0)) (fun cl C s H fp => ⟨(zD 0 (show List.Nodup (["x"] : List Str) from by decide +kernel)), w9, (zo h_sign (hr.mono (by decide)) rfl (zb (dv 0) zl) (zp z7))⟩)) (zj (zJ (CG (N4 hr (DE.dr zk) (DE.dr (dv 1))) (CA (CB hr (DE.dr (Yu (DE.dr zk))) (DE.dr (dv 1))))))))
noncomputable def wt : FS := (yb (VL 2 (Zm zw)) (yb (xh 3 (zN uM (za (vF 0) (za (tupF zw) zw)))) (yb (Wn (zM (vF 1)) (zu 4) (yb (vd 2 (zN xT (za (zc ixD (vF 3) (vF 4)) zw))) (xh 3 (zN zW (za (vF 0) (za (vF 3) (za (vF 4) zw))))))) (Wm 2 (yY (vF 2))))))
noncomputable def zZ : List D -> Option D := vL 5 wt
theorem yG : FnScope ["house", "word", "told", "rows", "mirror"] ["house", "word"] (zd yA) := ⟨rfl, rfl, rfl, by decide +kernel, rfl, by decide +kernel, by decide +kernel⟩
theorem q9 (Fn : Fun K "which_lengthen" "which_lengthen" yA f fd) (T : Txt K mg) (h_images : HasFn P w K mg base 5 "images" 2 uM) (h_images_with_behind : HasFn P w K mg base 3 "images_with_behind" 3 zW) (h_is_above : HasFn P w K mg base 3 "is_above" 1 xT) :
  FnOk P w K mg base CX0 6 f fd ["house", "word"] (spF K 2 zZ) :=
 yd (k := 5) (m := 5) (F := wt) rfl rfl Fn yG fun cdv A outer s H E hr => (ze (jm 2 yG.nd (ub zl)) (ze (yh 3 yG.nd (zo h_images (hr.mono (by decide)) rfl (zb (dv 0) (zb (uQ zl) zl)) (zp (zp z7)))) (ze (uX PassesOwn.never rfl (xO (dv 1)) (zD 4 yG.nd) (ze (qF 2 (zo h_is_above (hr.mono (by decide)) rfl (zb (wN (DE.dr (dv 3)) (DE.dr (dv 4))) zl) (zp z7))) (zj (yh 3 yG.nd (zo h_images_with_behind (hr.mono (by decide)) rfl (zb (dv 0) (zb (dv 3) (zb (dv 4) zl))) (zp (zp (zp z7)))))))) (qe 2 (zj (zJ (dv 2)))))))
noncomputable def ju : FS := (yY (zN Mw (za (zN zZ (za (vF 0) (za (vF 1) zw))) zw)))
noncomputable def wM : List D -> Option D := vL 2 ju
theorem X1 : FnScope ["house", "word"] ["house", "word"] (zd wJ) := ⟨rfl, rfl, rfl, by decide +kernel, rfl, by decide +kernel, by decide +kernel⟩
theorem Wa (Fn : Fun K "is_short" "is_short" wJ f fd) (T : Txt K mg) (h_which_lengthen : HasFn P w K mg base 6 "which_lengthen" 2 zZ) :
  FnOk P w K mg base CX0 7 f fd ["house", "word"] (spF K 2 wM) :=
 yd (k := 6) (m := 2) (F := ju) rfl rfl Fn X1 fun cdv A outer s H E hr => (zj (zJ (xa (VG rfl) Jc rfl T.all_b (by rfl) (zB (DE.dr (zo h_which_lengthen (hr.mono (by decide)) rfl (zb (dv 0) (zb (dv 1) zl)) (zp (zp z7)))) z6))))
noncomputable def YB : FS := (yY (zN MC (za (zT (xt 1 [] (zM (zN zZ (za (vF 0) (za (vF 1) zw)))) (zu 0) ttF (ifF (blF (vF 0)) (cF (.int 1)) (wG Y4 (cF (.int 1)))))) zw)))
noncomputable def uL : List D -> Option D := vL 2 YB
theorem U8 : FnScope ["house", "word"] ["house", "word"] (zd uG) := ⟨rfl, rfl, rfl, by decide +kernel, rfl, by decide +kernel, by decide +kernel⟩
theorem Qz (Fn : Fun K "length" "length" uG f fd) (T : Txt K mg) (h_which_lengthen : HasFn P w K mg base 6 "which_lengthen" 2 zZ) :
  FnOk P w K mg base CX0 7 f fd ["house", "word"] (spF K 2 uL) :=
 yd (k := 6) (m := 2) (F := YB) rfl rfl Fn U8 fun cdv A outer s H E hr => (zj (zJ (xa (GR rfl) Ce rfl T.sum_b (by rfl) (zB (DE.dr (DN.de (xM (own := ["longer"]) (frees := []) (caps := []) rfl (.of (by kernel_rfl)) rfl yk (xO (zo h_which_lengthen (hr.mono (by decide)) rfl (zb (dv 0) (zb (dv 1) zl)) (zp (zp z7)))) (fun cl C s H fp => ⟨(zD 0 (show List.Nodup (["longer"] : List Str) from by decide +kernel)), w9, (JA (VB (DE.dr (dv 0))) zk (Yu (DE.dr zk)))⟩)))) z6))))
noncomputable def VQ : FS := (yb (ifS (blF (zc ltD (vF 1) (zN Y9 (za (vF 0) zw)))) (yY (zc ixD (vF 0) (vF 1))) nxF) (yY (zc ue (zc u5 (cF (.int 17)) (vF 1)) (cF (.int 9)))))
noncomputable def uq : List D -> Option D := vL 2 VQ
theorem HK : FnScope ["_law_script", "_law_k"] ["_law_script", "_law_k"] (zd ZC) := ⟨rfl, rfl, rfl, by decide +kernel, rfl, by decide +kernel, by decide +kernel⟩
theorem BD (Fn : Fun K "_law_at" "_law_at" ZC f fd) (T : Txt K mg)  :
  FnOk P w K mg base CX0 1 f fd ["_law_script", "_law_k"] (spF K 2 uq) :=
 yd (k := 0) (m := 2) (F := VQ) rfl rfl Fn HK fun cdv A outer s H E hr => (ze (wq (Ck (DE.dr (dv 1)) (DE.dr (xa wX u6 rfl T.len_b (by rfl) (zB (DE.dr (dv 0)) z6)))) (zj (zJ (wN (DE.dr (dv 0)) (DE.dr (dv 1))))) yo) (zj (zJ (xb (DE.dr (uR (DE.dr zk) (DE.dr (dv 1)))) (DE.dr zk)))))
noncomputable def YC : FS := (yb (ifS (blF (zc geD (vF 0) (zc CW (cF (.int 10)) (cF (.int 12))))) (yb (xh 0 (zc jT (zc ur (vF 0) (zc CW (cF (.int 10)) (cF (.int 12)))) (cF (.int 1)))) (yb (Wn (J3 (za (zc kh (vF 1) (cF (.int 61))) zw)) (zu 2) (xh 0 (zc ur (vF 0) (cF (.int 2147483648))))) (yY (zc kh (vF 0) (cF (.int 2147483648)))))) nxF) (yb (xh 3 (zc kh (zc u5 (zc ue (zc ue (zc kh (vF 0) (cF (.int 2147483629))) (vF 1)) (cF (.int 1))) (zc ue (zc u5 (zc u5 (cF (.int 8)) (vF 1)) (vF 1)) (cF (.int 48271)))) (cF (.int 2147483647)))) (yb (xh 3 (zc kh (zc u5 (vF 3) (vF 3)) (cF (.int 2147483587)))) (yY (zc kh (zc u5 (vF 3) (zc ue (vF 3) (cF (.int 2)))) (cF (.int 2147483579)))))))
noncomputable def xK : List D -> Option D := vL 4 YC
theorem uD : FnScope ["_law_number", "_law_place", "_law_turn", "_law_part"] ["_law_number", "_law_place"] (zd qX) := ⟨rfl, rfl, rfl, by decide +kernel, rfl, by decide +kernel, by decide +kernel⟩
theorem K2 (Fn : Fun K "_law_mix" "_law_mix" qX f fd) (T : Txt K mg)  :
  FnOk P w K mg base CX0 1 f fd ["_law_number", "_law_place"] (spF K 2 xK) :=
 yd (k := 0) (m := 4) (F := YC) rfl rfl Fn uD fun cdv A outer s H E hr => (ze (wq (Cn (DE.dr (dv 0)) (DE.dr (Mf (DE.dr zk) (DE.dr zk)))) (ze (yh 0 uD.nd (kK (DE.dr (qG (DE.dr (dv 0)) (DE.dr (Mf (DE.dr zk) (DE.dr zk))))) (DE.dr zk))) (ze (uX PassesOwn.never rfl (vK rfl T.range_b (zB (DE.dr (qg (DE.dr (dv 1)) (DE.dr zk))) z6)) (zD 2 uD.nd) (zj (yh 0 uD.nd (qG (DE.dr (dv 0)) (DE.dr zk))))) (zj (zJ (qg (DE.dr (dv 0)) (DE.dr zk)))))) yo) (ze (yh 3 uD.nd (qg (DE.dr (uR (DE.dr (xb (DE.dr (xb (DE.dr (qg (DE.dr (dv 0)) (DE.dr zk))) (DE.dr (dv 1)))) (DE.dr zk))) (DE.dr (xb (DE.dr (uR (DE.dr (uR (DE.dr zk) (DE.dr (dv 1)))) (DE.dr (dv 1)))) (DE.dr zk))))) (DE.dr zk))) (ze (yh 3 uD.nd (qg (DE.dr (uR (DE.dr (dv 3)) (DE.dr (dv 3)))) (DE.dr zk))) (zj (zJ (qg (DE.dr (uR (DE.dr (dv 3)) (DE.dr (xb (DE.dr (dv 3)) (DE.dr zk))))) (DE.dr zk)))))))
noncomputable def Ze : FS := (yY (Mv (wG (FI "int") (vF 0)) (Nj (wG (FI "bool") (vF 0)))))
noncomputable def vG : List D -> Option D := vL 1 Ze
theorem V5 : FnScope ["_law_found"] ["_law_found"] (zd vn) := ⟨rfl, rfl, rfl, by decide +kernel, rfl, by decide +kernel, by decide +kernel⟩
theorem Ui (Fn : Fun K "_law_whole" "_law_whole" vn f fd) (T : Txt K mg)  :
  FnOk P w K mg base CX0 1 f fd ["_law_found"] (spF K 1 vG) :=
 yd (k := 0) (m := 1) (F := Ze) rfl rfl Fn V5 fun cdv A outer s H E hr => (zj (zJ (CG (Jz C8 (DE.dr (dv 0)) rfl T.isinstance_b rfl T.int_b) (CA (NA (Jz HC (DE.dr (dv 0)) rfl T.isinstance_b rfl T.bool_b))))))
noncomputable def qP : FS := (yb (ifS (blF (zc eqF (vF 0) (cF (.int 2)))) (yY (zT (Zm (za (tupF (za (cF (.int 0)) (za (cF (.int 1)) (za (cF (.int 0)) zw)))) zw)))) nxF) (yb (VL 2 (Hi (zT (Zm (za (cF (.int 3)) zw))) (zc jT (vF 0) (cF (.int 1))))) (yb (xh 3 (zc kh (vF 1) (cF (.int 5)))) (yb (ifS (blF (zc eqF (vF 3) (cF (.int 1)))) (uY 2 (zc kh (zc ur (vF 1) (cF (.int 5))) (zc jT (vF 0) (cF (.int 1)))) (cF (.int 0))) nxF) (yb (ifS (blF (zc eqF (vF 3) (cF (.int 2)))) (yb (uY 2 (cF (.int 0)) (cF (.int 4))) (uY 2 (wG Y4 (cF (.int 1))) (cF (.int 4)))) nxF) (yb (ifS (blF (zc eqF (vF 3) (cF (.int 3)))) (yb (uY 2 (cF (.int 0)) (cF (.int 5))) (uY 2 (wG Y4 (cF (.int 1))) (zc ixD (zT (Zm (za (cF (.int 4)) (za (cF (.int 5)) zw)))) (zc kh (zc ur (vF 1) (cF (.int 5))) (cF (.int 2)))))) nxF) (yb (ifS (blF (zc eqF (vF 3) (cF (.int 4)))) (uY 2 (zc jT (zc kh (zc ur (vF 1) (cF (.int 5))) (cF (.int 2))) (cF (.int 1))) (cF (.int 6))) nxF) (Wm 2 (yb (VL 4 (xt 1 [2] (J3 (za (zc jT (vF 0) (cF (.int 1))) zw)) (zu 0) ttF (tupF (za (vF 0) (za (zc ue (vF 0) (cF (.int 1))) (za (zc ixD (vF 1) (vF 0)) zw)))))) (yb (ifS (blF (zc eqF (vF 3) (cF (.int 0)))) (vd 4 (tupF (za (cF (.int 0)) (za (zc jT (vF 0) (cF (.int 1))) (za (cF (.int 3)) zw))))) nxF) (Wm 4 (yY (vF 4)))))))))))))
noncomputable def wc : List D -> Option D := vL 5 qP
theorem uE : FnScope ["_law_many", "_law_number", "_law_row", "_law_way", "_law_turns"] ["_law_many", "_law_number"] (zd vp) := ⟨rfl, rfl, rfl, by decide +kernel, rfl, by decide +kernel, by decide +kernel⟩
theorem Uk (Fn : Fun K "_law_first" "_law_first" vp f fd) (T : Txt K mg)  :
  FnOk P w K mg base CX0 1 f fd ["_law_many", "_law_number"] (spF K 2 wc) :=
 yd (k := 0) (m := 5) (F := qP) rfl rfl Fn uE fun cdv A outer s H E hr => (ze (wq (ud hr (DE.dr (dv 0)) (DE.dr zk)) (zj (zJ (DN.de (ub (zb (uQ (zb zk (zb zk (zb zk zl)))) zl))))) yo) (ze (jm 2 uE.nd (Ws (DE.dr (DN.de (ub (zb zk zl)))) (DE.dr (kK (DE.dr (dv 0)) (DE.dr zk))))) (ze (yh 3 uE.nd (qg (DE.dr (dv 1)) (DE.dr zk))) (ze (wq (ud hr (DE.dr (dv 3)) (DE.dr zk)) (zj (jl 2 zk (qg (DE.dr (qG (DE.dr (dv 1)) (DE.dr zk))) (DE.dr (kK (DE.dr (dv 0)) (DE.dr zk)))))) yo) (ze (wq (ud hr (DE.dr (dv 3)) (DE.dr zk)) (ze (jl 2 zk zk) (zj (jl 2 zk (Yu (DE.dr zk))))) yo) (ze (wq (ud hr (DE.dr (dv 3)) (DE.dr zk)) (ze (jl 2 zk zk) (zj (jl 2 (wN (DE.dr (DN.de (ub (zb zk (zb zk zl))))) (DE.dr (qg (DE.dr (qG (DE.dr (dv 1)) (DE.dr zk))) (DE.dr zk)))) (Yu (DE.dr zk))))) yo) (ze (wq (ud hr (DE.dr (dv 3)) (DE.dr zk)) (zj (jl 2 zk (kK (DE.dr (qg (DE.dr (qG (DE.dr (dv 1)) (DE.dr zk))) (DE.dr zk))) (DE.dr zk)))) yo) (qe 2 (ze (Wr 4 uE.nd (own := ["_law_k"]) (frees := ["_law_row"]) (caps := [2]) rfl (.of (by kernel_rfl)) rfl yk (vK rfl T.range_b (zB (DE.dr (kK (DE.dr (dv 0)) (DE.dr zk))) z6)) (fun cl C s H fp => ⟨(zD 0 (show List.Nodup (["_law_k", "_law_row"] : List Str) from by decide +kernel)), w9, (uQ (zb (dv 0) (zb (xb (DE.dr (dv 0)) (DE.dr zk)) (zb (wN (DE.dr (dv 1)) (DE.dr (dv 0))) zl))))⟩)) (ze (wq (ud hr (DE.dr (dv 3)) (DE.dr zk)) (zj (qF 4 (uQ (zb zk (zb (kK (DE.dr (dv 0)) (DE.dr zk)) (zb zk zl)))))) yo) (qe 4 (zj (zJ (dv 4))))))))))))))
noncomputable def Zf : FS := (yb (xh 1 (zN xK (za (zN uq (za (vF 0) (za (cF (.int 0)) zw))) (za (cF (.int 1)) zw)))) (yb (xh 2 (zc ue (cF (.int 2)) (zc kh (vF 1) (cF (.int 5))))) (yb (xh 3 (zc ue (cF (.int 2)) (zc kh (zc ur (vF 1) (cF (.int 5))) (zc jT (vF 2) (cF (.int 1)))))) (yb (GG 4) (yb (Wn (zM (zN wc (za (vF 3) (za (zc ur (vF 1) (cF (.int 32))) zw)))) (qQ 3 (yg (zu 5) (yg (zu 6) (yg (zu 7) jF)))) (Jo 4 (za (vF 5) (za (vF 6) zw)) (vF 7))) (yb (Wn (zM (jx (vF 0) (exP (cF (.int 1))) (exP (cF (.int 64))))) (zu 8) (yb (xh 9 (zN xK (za (vF 8) (za (cF (.int 2)) zw)))) (yb (xh 5 (zc kh (vF 9) (vF 3))) (yb (xh 6 (zc kh (zc ur (vF 9) (cF (.int 8))) (vF 3))) (yb (JP 10 (za (zN K9 (za (vF 5) (za (vF 6) zw))) (za (zN QL (za (vF 5) (za (vF 6) zw))) zw))) (ifS (XQ (blF (zc neF (vF 5) (vF 6))) (blF (zc neF (Wu 4 (vF 10) (cF (.int 2))) (cF (.int 0))))) (ZQ 4 10 (zc ixD (zT (Zm (za (zN QL (za (cF (.int 3)) (za (Wu 4 (vF 10) (cF (.int 2))) zw))) (za (cF (.int 5)) (za (cF (.int 6)) (za (cF (.int 0)) zw)))))) (zN K9 (za (cF (.int 3)) (za (zN QL (za (cF (.int 0)) (za (zc jT (Wu 4 (vF 10) (cF (.int 2))) (cF (.int 3))) zw))) zw))))) nxF)))))) (yb (VL 11 (Zm zw)) (yb (Jb 4 (qQ 2 (yg (zu 10) (yg (zu 7) jF))) (vd 11 (tupF (za (zc ixD (vF 10) (cF (.int 0))) (za (zc ixD (vF 10) (cF (.int 1))) (za (vF 7) zw)))))) (Wm 11 (yY (tupF (za (tupF (za (vF 2) (za (vF 11) zw))) (za (vF 3) zw)))))))))))))
noncomputable def vH : List D -> Option D := vL 12 Zf
theorem z8 : FnScope ["_law_script", "_law_number", "_law_mirrors", "_law_many", "_law_told", "_law_i", "_law_j", "_law_often", "_law_cell", "_law_drawn", "_law_pair", "_law_turns"] ["_law_script"] (zd vo) := ⟨rfl, rfl, rfl, by decide +kernel, rfl, by decide +kernel, by decide +kernel⟩
theorem Uj (Fn : Fun K "_law_house" "_law_house" vo f fd) (T : Txt K mg) (h_l_at : HasFn P w K mg base 1 "_law_at" 2 uq) (h_l_first : HasFn P w K mg base 1 "_law_first" 2 wc) (h_l_mix : HasFn P w K mg base 1 "_law_mix" 2 xK) :
  FnOk P w K mg base CX0 2 f fd ["_law_script"] (spF K 1 vH) :=
 yd (k := 1) (m := 12) (F := Zf) rfl rfl Fn z8 fun cdv A outer s H E hr => (ze (yh 1 z8.nd (zo h_l_mix (hr.mono (by decide)) rfl (zb (zo h_l_at (hr.mono (by decide)) rfl (zb (dv 0) (zb zk zl)) (zp (zp z7))) (zb zk zl)) (zp (zp z7)))) (ze (yh 2 z8.nd (xb (DE.dr zk) (DE.dr (qg (DE.dr (dv 1)) (DE.dr zk))))) (ze (yh 3 z8.nd (xb (DE.dr zk) (DE.dr (qg (DE.dr (qG (DE.dr (dv 1)) (DE.dr zk))) (DE.dr (kK (DE.dr (dv 2)) (DE.dr zk))))))) (ze (Cr 4 z8.nd) (ze (uX PassesOwn.never rfl (xO (zo h_l_first (hr.mono (by decide)) rfl (zb (dv 3) (zb (qG (DE.dr (dv 1)) (DE.dr zk)) zl)) (zp (zp z7)))) (uu rfl (z5 (zD 5 z8.nd) (z5 (zD 6 z8.nd) (z5 (zD 7 z8.nd) wW)))) (zj (Cq 4 hr (dv 7) (zb (dv 5) (zb (dv 6) zl))))) (ze (uX PassesOwn.never rfl (xO (Yt (DE.dr (dv 0)) (Jp (DE.dr zk)) (Jp (DE.dr zk)))) (zD 8 z8.nd) (ze (yh 9 z8.nd (zo h_l_mix (hr.mono (by decide)) rfl (zb (dv 8) (zb zk zl)) (zp (zp z7)))) (ze (yh 5 z8.nd (qg (DE.dr (dv 9)) (DE.dr (dv 3)))) (ze (yh 6 z8.nd (qg (DE.dr (qG (DE.dr (dv 9)) (DE.dr zk))) (DE.dr (dv 3)))) (Co 10 z8.nd (zb (xa (kQ rfl) Wo rfl T.min_b (by rfl) (zB (DE.dr (dv 5)) (zB (DE.dr (dv 6)) z6))) (zb (xa (qJ rfl) Yq rfl T.max_b (by rfl) (zB (DE.dr (dv 5)) (zB (DE.dr (dv 6)) z6))) zl)) (Nx (DW.dt (ZO (Ys hr (DE.dr (dv 5)) (DE.dr (dv 6))) (jk (Ys hr (DE.dr (Ww 4 hr (dv 10) zk)) (DE.dr zk))))) (by refine Mb 4 10 hr ?hv; (case hv => refine wN ?a ?b; (case b => exact (DE.dr (xa (kQ rfl) Wo rfl T.min_b (by rfl) (zB (DE.dr zk) (zB (DE.dr (xa (qJ rfl) Yq rfl T.max_b (by rfl) (zB (DE.dr zk) (zB (DE.dr (kK (DE.dr (Ww 4 hr (dv 10) zk)) (DE.dr zk))) z6)))) z6))))); (case a => refine DE.dr ?u; (case u => refine DN.de ?c; (case c => exact (ub (zb (xa (qJ rfl) Yq rfl T.max_b (by rfl) (zB (DE.dr zk) (zB (DE.dr (Ww 4 hr (dv 10) zk)) z6))) (zb zk (zb zk (zb zk zl)))))))))))))))) (ze (jm 11 z8.nd (ub zl)) (ze (Cp PassesOwn.never rfl (KF 4) (uu rfl (z5 (zD 10 z8.nd) (z5 (zD 7 z8.nd) wW))) (zj (qF 11 (uQ (zb (wN (DE.dr (dv 10)) (DE.dr zk)) (zb (wN (DE.dr (dv 10)) (DE.dr zk)) (zb (dv 7) zl))))))) (qe 11 (zj (zJ (uQ (zb (uQ (zb (dv 2) (zb (dv 11) zl))) (zb (dv 3) zl))))))))))))))
noncomputable def CV : FS := (yb (MG (qQ 2 (yg (zu 1) (yg (zu 2) jF))) (zN vH (za (vF 0) zw))) (yb (xh 3 (tupF (za (zc ixD (vF 1) (cF (.int 0))) (za (zT (BR (za (zc ixD (vF 1) (cF (.int 1))) zw))) zw)))) (yb (xh 4 (zN vI (za (vF 3) zw))) (yb (ifS (orT (BI (blF (wG (FI "tuple") (vF 4)))) (orT (blF (zc neF (vF 4) (Dc (za (vF 2) zw)))) (BI (blF (zN vG (za (zc ixD (vF 4) (cF (.int 0))) zw)))))) (yY (cF (.bl false))) nxF) (yb (xh 5 (zc ue (cF (.int 1)) (zc kh (zN xK (za (zN uq (za (vF 0) (za (cF (.int 0)) zw))) (za (cF (.int 4)) zw))) (zc ur (cF (.int 24)) (vF 2))))) (yb (xh 6 (zc BM (vF 4) (vF 5))) (yb (ifS (orT (blF (zc QD (zN wM (za (vF 3) (za (vF 6) zw))) (cF (.bl true)))) (blF (zc neF (zN uL (za (vF 3) (za (vF 6) zw))) (zc u5 (vF 2) (vF 5))))) (yY (cF (.bl false))) nxF) (yb (xh 7 (zT (xt 1 [3, 6] (J3 (za (vF 2) zw)) (zu 0) ttF (zc eqF (zN kF (za (vF 1) (za (vF 2) (za (zN xg (za (vF 1) (za (vF 0) zw))) zw)))) (zN xg (za (vF 1) (za (vF 0) zw))))))) (yY (Mv (zc (inD false) (cF (.bl false)) (vF 7)) (zc eqF (vF 3) (vF 1))))))))))))
noncomputable def g_law : List D -> Option D := vL 8 CV
theorem jy : FnScope ["_law_script", "_law_house_here", "_law_many", "_law_handed", "_law_word", "_law_power", "_law_whole_here", "_law_back"] ["_law_script"] (zd Ya) := ⟨rfl, rfl, rfl, by decide +kernel, rfl, by decide +kernel, by decide +kernel⟩
theorem Fj (Fn : Fun K "law" "law" Ya f fd) (T : Txt K mg) (h_l_at : HasFn P w K mg base 1 "_law_at" 2 uq) (h_l_house : HasFn P w K mg base 2 "_law_house" 1 vH) (h_l_mix : HasFn P w K mg base 1 "_law_mix" 2 xK) (h_l_whole : HasFn P w K mg base 1 "_law_whole" 1 vG) (h_endless : HasFn P w K mg base 8 "endless" 1 vI) (h_is_short : HasFn P w K mg base 7 "is_short" 2 wM) (h_led : HasFn P w K mg base 4 "led" 3 kF) (h_length : HasFn P w K mg base 7 "length" 2 uL) (h_simple : HasFn P w K mg base 1 "simple" 2 xg) :
  FnOk P w K mg base CX0 9 f fd ["_law_script"] (spF K 1 g_law) :=
 yd (k := 8) (m := 8) (F := CV) rfl rfl Fn jy fun cdv A outer s H E hr => (ze (Ct (uu rfl (z5 (zD 1 jy.nd) (z5 (zD 2 jy.nd) wW))) (zo h_l_house (hr.mono (by decide)) rfl (zb (dv 0) zl) (zp z7))) (ze (yh 3 jy.nd (uQ (zb (wN (DE.dr (dv 1)) (DE.dr zk)) (zb (DN.de (Cv rfl T.list_b (zB (DE.dr (wN (DE.dr (dv 1)) (DE.dr zk))) z6))) zl)))) (ze (yh 4 jy.nd (zo h_endless (hr.mono (by decide)) rfl (zb (dv 3) zl) (zp z7))) (ze (wq (DW.dt (Ci (Jl (VB (DE.dr (Jz J7 (DE.dr (dv 4)) rfl T.isinstance_b rfl T.tuple_b)))) (Ci (Ys hr (DE.dr (dv 4)) (DE.dr (Cy rfl rfl T.tuple_b rfl T.range_b (zB (DE.dr (dv 2)) z6)))) (Hn (Jl (VB (DE.dr (zo h_l_whole (hr.mono (by decide)) rfl (zb (wN (DE.dr (dv 4)) (DE.dr zk)) zl) (zp z7))))))))) (zj (zJ MF)) yo) (ze (yh 5 jy.nd (xb (DE.dr zk) (DE.dr (qg (DE.dr (zo h_l_mix (hr.mono (by decide)) rfl (zb (zo h_l_at (hr.mono (by decide)) rfl (zb (dv 0) (zb zk zl)) (zp (zp z7))) (zb zk zl)) (zp (zp z7)))) (DE.dr (qG (DE.dr zk) (DE.dr (dv 2)))))))) (ze (yh 6 jy.nd (Mg (DE.dr (dv 4)) (DE.dr (dv 5)))) (ze (wq (DW.dt (Ci (Jm (DE.dr (zo h_is_short (hr.mono (by decide)) rfl (zb (dv 3) (zb (dv 6) zl)) (zp (zp z7)))) (DE.dr MF)) (Hn (Ys hr (DE.dr (zo h_length (hr.mono (by decide)) rfl (zb (dv 3) (zb (dv 6) zl)) (zp (zp z7)))) (DE.dr (uR (DE.dr (dv 2)) (DE.dr (dv 5)))))))) (zj (zJ MF)) yo) (ze (vJ 7 jy.nd (own := ["_law_i"]) (frees := ["_law_handed", "_law_whole_here"]) (caps := [3, 6]) rfl (.of (by kernel_rfl)) rfl yk (vK rfl T.range_b (zB (DE.dr (dv 2)) z6)) (fun cl C s H fp => ⟨(zD 0 (show List.Nodup (["_law_i", "_law_handed", "_law_whole_here"] : List Str) from by decide +kernel)), w9, (NC hr (DE.dr (zo h_led (hr.mono (by decide)) rfl (zb (dv 1) (zb (dv 2) (zb (zo h_simple (hr.mono (by decide)) rfl (zb (dv 1) (zb (dv 0) zl)) (zp (zp z7))) zl))) (zp (zp (zp z7))))) (DE.dr (zo h_simple (hr.mono (by decide)) rfl (zb (dv 1) (zb (dv 0) zl)) (zp (zp z7)))))⟩)) (zj (zJ (CG (N4 hr (DE.dr MF) (DE.dr (dv 7))) (CA (NC hr (DE.dr (dv 3)) (DE.dr (dv 1)))))))))))))))
end
theorem all_mk {l : W.OpenLaw} {w : World} {K : W.Frag} {h : Heap} {mg : Str -> Option Value} {fa : Addr} (X : K.In h) (G : h.Ns mainGlobals mg) (hfa : mg "law" = some (.ref fa))
  {f0 : Addr} {oc0 : Value} {od0 an0 : Option Addr} {osl0 : Array (Option Value)} {kV0 doc0 pm0 cdv0 ct0 : Value}
  {f1 : Addr} {oc1 : Value} {od1 an1 : Option Addr} {osl1 : Array (Option Value)} {kV1 doc1 pm1 cdv1 ct1 : Value}
  {f2 : Addr} {oc2 : Value} {od2 an2 : Option Addr} {osl2 : Array (Option Value)} {kV2 doc2 pm2 cdv2 ct2 : Value}
  {f3 : Addr} {oc3 : Value} {od3 an3 : Option Addr} {osl3 : Array (Option Value)} {kV3 doc3 pm3 cdv3 ct3 : Value}
  {f4 : Addr} {oc4 : Value} {od4 an4 : Option Addr} {osl4 : Array (Option Value)} {kV4 doc4 pm4 cdv4 ct4 : Value}
  {f5 : Addr} {oc5 : Value} {od5 an5 : Option Addr} {osl5 : Array (Option Value)} {kV5 doc5 pm5 cdv5 ct5 : Value}
  {f6 : Addr} {oc6 : Value} {od6 an6 : Option Addr} {osl6 : Array (Option Value)} {kV6 doc6 pm6 cdv6 ct6 : Value}
  {f7 : Addr} {oc7 : Value} {od7 an7 : Option Addr} {osl7 : Array (Option Value)} {kV7 doc7 pm7 cdv7 ct7 : Value}
  {f8 : Addr} {oc8 : Value} {od8 an8 : Option Addr} {osl8 : Array (Option Value)} {kV8 doc8 pm8 cdv8 ct8 : Value}
  {f9 : Addr} {oc9 : Value} {od9 an9 : Option Addr} {osl9 : Array (Option Value)} {kV9 doc9 pm9 cdv9 ct9 : Value}
  {f10 : Addr} {oc10 : Value} {od10 an10 : Option Addr} {osl10 : Array (Option Value)} {kV10 doc10 pm10 cdv10 ct10 : Value}
  {f11 : Addr} {oc11 : Value} {od11 an11 : Option Addr} {osl11 : Array (Option Value)} {kV11 doc11 pm11 cdv11 ct11 : Value}
  {f12 : Addr} {oc12 : Value} {od12 an12 : Option Addr} {osl12 : Array (Option Value)} {kV12 doc12 pm12 cdv12 ct12 : Value}
  {f13 : Addr} {oc13 : Value} {od13 an13 : Option Addr} {osl13 : Array (Option Value)} {kV13 doc13 pm13 cdv13 ct13 : Value}
  {f14 : Addr} {oc14 : Value} {od14 an14 : Option Addr} {osl14 : Array (Option Value)} {kV14 doc14 pm14 cdv14 ct14 : Value}
  {f15 : Addr} {oc15 : Value} {od15 an15 : Option Addr} {osl15 : Array (Option Value)} {kV15 doc15 pm15 cdv15 ct15 : Value}
  {f16 : Addr} {oc16 : Value} {od16 an16 : Option Addr} {osl16 : Array (Option Value)} {kV16 doc16 pm16 cdv16 ct16 : Value}
  {f17 : Addr} {oc17 : Value} {od17 an17 : Option Addr} {osl17 : Array (Option Value)} {kV17 doc17 pm17 cdv17 ct17 : Value}
  {f18 : Addr} {oc18 : Value} {od18 an18 : Option Addr} {osl18 : Array (Option Value)} {kV18 doc18 pm18 cdv18 ct18 : Value}
  {f19 : Addr} {oc19 : Value} {od19 an19 : Option Addr} {osl19 : Array (Option Value)} {kV19 doc19 pm19 cdv19 ct19 : Value}
  {f20 : Addr} {oc20 : Value} {od20 an20 : Option Addr} {osl20 : Array (Option Value)} {kV20 doc20 pm20 cdv20 ct20 : Value}
  {f21 : Addr} {oc21 : Value} {od21 an21 : Option Addr} {osl21 : Array (Option Value)} {kV21 doc21 pm21 cdv21 ct21 : Value}
  {f22 : Addr} {oc22 : Value} {od22 an22 : Option Addr} {osl22 : Array (Option Value)} {kV22 doc22 pm22 cdv22 ct22 : Value}
  {f23 : Addr} {oc23 : Value} {od23 an23 : Option Addr} {osl23 : Array (Option Value)} {kV23 doc23 pm23 cdv23 ct23 : Value}
  {f24 : Addr} {oc24 : Value} {od24 an24 : Option Addr} {osl24 : Array (Option Value)} {kV24 doc24 pm24 cdv24 ct24 : Value}
  {f25 : Addr} {oc25 : Value} {od25 an25 : Option Addr} {osl25 : Array (Option Value)} {kV25 doc25 pm25 cdv25 ct25 : Value}
  {f26 : Addr} {oc26 : Value} {od26 an26 : Option Addr} {osl26 : Array (Option Value)} {kV26 doc26 pm26 cdv26 ct26 : Value}
  {f27 : Addr} {oc27 : Value} {od27 an27 : Option Addr} {osl27 : Array (Option Value)} {kV27 doc27 pm27 cdv27 ct27 : Value}
  {f28 : Addr} {oc28 : Value} {od28 an28 : Option Addr} {osl28 : Array (Option Value)} {kV28 doc28 pm28 cdv28 ct28 : Value}
  {f29 : Addr} {oc29 : Value} {od29 an29 : Option Addr} {osl29 : Array (Option Value)} {kV29 doc29 pm29 cdv29 ct29 : Value}
  {f30 : Addr} {oc30 : Value} {od30 an30 : Option Addr} {osl30 : Array (Option Value)} {kV30 doc30 pm30 cdv30 ct30 : Value}
  {f31 : Addr} {oc31 : Value} {od31 an31 : Option Addr} {osl31 : Array (Option Value)} {kV31 doc31 pm31 cdv31 ct31 : Value}
  {f32 : Addr} {oc32 : Value} {od32 an32 : Option Addr} {osl32 : Array (Option Value)} {kV32 doc32 pm32 cdv32 ct32 : Value}
  {f33 : Addr} {oc33 : Value} {od33 an33 : Option Addr} {osl33 : Array (Option Value)} {kV33 doc33 pm33 cdv33 ct33 : Value}
  {f34 : Addr} {oc34 : Value} {od34 an34 : Option Addr} {osl34 : Array (Option Value)} {kV34 doc34 pm34 cdv34 ct34 : Value}
  {f35 : Addr} {oc35 : Value} {od35 an35 : Option Addr} {osl35 : Array (Option Value)} {kV35 doc35 pm35 cdv35 ct35 : Value}
  {f36 : Addr} {oc36 : Value} {od36 an36 : Option Addr} {osl36 : Array (Option Value)} {kV36 doc36 pm36 cdv36 ct36 : Value}
  {f37 : Addr} {oc37 : Value} {od37 an37 : Option Addr} {osl37 : Array (Option Value)} {kV37 doc37 pm37 cdv37 ct37 : Value}
  {t_COMMON_TURN : Tok}
  {t_NOT_TOLD : Tok}
  {tk_NOUGHT_0 : Tok}
  {tk_NOUGHT_1 : Tok}
  {ta_NOUGHT : Addr} {od_NOUGHT : Option Addr} {n_NOUGHT : Nat} {osl_NOUGHT : Array (Option Value)}
  {t_NO_KIND : Tok}
  {tk_ONE_0 : Tok}
  {tk_ONE_1 : Tok}
  {ta_ONE : Addr} {od_ONE : Option Addr} {n_ONE : Nat} {osl_ONE : Array (Option Value)}
  {tk_PULLS_BELOW_NOUGHT_0_0 : Tok}
  {tk_PULLS_BELOW_NOUGHT_0_1 : Tok}
  {ta_PULLS_BELOW_NOUGHT_0 : Addr} {od_PULLS_BELOW_NOUGHT_0 : Option Addr} {n_PULLS_BELOW_NOUGHT_0 : Nat} {osl_PULLS_BELOW_NOUGHT_0 : Array (Option Value)}
  {kk_PULLS_BELOW_NOUGHT_0 : Tok}
  {tk_PULLS_BELOW_NOUGHT_1_0 : Tok}
  {tk_PULLS_BELOW_NOUGHT_1_1 : Tok}
  {ta_PULLS_BELOW_NOUGHT_1 : Addr} {od_PULLS_BELOW_NOUGHT_1 : Option Addr} {n_PULLS_BELOW_NOUGHT_1 : Nat} {osl_PULLS_BELOW_NOUGHT_1 : Array (Option Value)}
  {kk_PULLS_BELOW_NOUGHT_1 : Tok}
  {tk_PULLS_BELOW_NOUGHT_2_0 : Tok}
  {tk_PULLS_BELOW_NOUGHT_2_1 : Tok}
  {ta_PULLS_BELOW_NOUGHT_2 : Addr} {od_PULLS_BELOW_NOUGHT_2 : Option Addr} {n_PULLS_BELOW_NOUGHT_2 : Nat} {osl_PULLS_BELOW_NOUGHT_2 : Array (Option Value)}
  {kk_PULLS_BELOW_NOUGHT_2 : Tok}
  {tk_PULLS_BELOW_NOUGHT_3_0 : Tok}
  {tk_PULLS_BELOW_NOUGHT_3_1 : Tok}
  {ta_PULLS_BELOW_NOUGHT_3 : Addr} {od_PULLS_BELOW_NOUGHT_3 : Option Addr} {n_PULLS_BELOW_NOUGHT_3 : Nat} {osl_PULLS_BELOW_NOUGHT_3 : Array (Option Value)}
  {kk_PULLS_BELOW_NOUGHT_3 : Tok}
  {tk_PULLS_BELOW_NOUGHT_4_0 : Tok}
  {tk_PULLS_BELOW_NOUGHT_4_1 : Tok}
  {ta_PULLS_BELOW_NOUGHT_4 : Addr} {od_PULLS_BELOW_NOUGHT_4 : Option Addr} {n_PULLS_BELOW_NOUGHT_4 : Nat} {osl_PULLS_BELOW_NOUGHT_4 : Array (Option Value)}
  {kk_PULLS_BELOW_NOUGHT_4 : Tok}
  {tk_PULLS_BELOW_NOUGHT_5_0 : Tok}
  {tk_PULLS_BELOW_NOUGHT_5_1 : Tok}
  {ta_PULLS_BELOW_NOUGHT_5 : Addr} {od_PULLS_BELOW_NOUGHT_5 : Option Addr} {n_PULLS_BELOW_NOUGHT_5 : Nat} {osl_PULLS_BELOW_NOUGHT_5 : Array (Option Value)}
  {kk_PULLS_BELOW_NOUGHT_5 : Tok}
  {da_PULLS_BELOW_NOUGHT : Addr} {ep_PULLS_BELOW_NOUGHT : Nat}
  {tk_RARE_CHAINS_0_0 : Tok}
  {tk_RARE_CHAINS_0_1 : Tok}
  {tk_RARE_CHAINS_0_2 : Tok}
  {ta_RARE_CHAINS_0 : Addr} {od_RARE_CHAINS_0 : Option Addr} {n_RARE_CHAINS_0 : Nat} {osl_RARE_CHAINS_0 : Array (Option Value)}
  {hh_RARE_CHAINS_0 : Int} {vt_RARE_CHAINS_0 : Tok}
  {tk_RARE_CHAINS_1_0 : Tok}
  {tk_RARE_CHAINS_1_1 : Tok}
  {ta_RARE_CHAINS_1 : Addr} {od_RARE_CHAINS_1 : Option Addr} {n_RARE_CHAINS_1 : Nat} {osl_RARE_CHAINS_1 : Array (Option Value)}
  {hh_RARE_CHAINS_1 : Int} {vt_RARE_CHAINS_1 : Tok}
  {tk_RARE_CHAINS_2_0 : Tok}
  {tk_RARE_CHAINS_2_1 : Tok}
  {tk_RARE_CHAINS_2_2 : Tok}
  {ta_RARE_CHAINS_2 : Addr} {od_RARE_CHAINS_2 : Option Addr} {n_RARE_CHAINS_2 : Nat} {osl_RARE_CHAINS_2 : Array (Option Value)}
  {hh_RARE_CHAINS_2 : Int} {vt_RARE_CHAINS_2 : Tok}
  {tk_RARE_CHAINS_3_0 : Tok}
  {ta_RARE_CHAINS_3 : Addr} {od_RARE_CHAINS_3 : Option Addr} {n_RARE_CHAINS_3 : Nat} {osl_RARE_CHAINS_3 : Array (Option Value)}
  {hh_RARE_CHAINS_3 : Int} {vt_RARE_CHAINS_3 : Tok}
  {tk_RARE_CHAINS_4_0 : Tok}
  {ta_RARE_CHAINS_4 : Addr} {od_RARE_CHAINS_4 : Option Addr} {n_RARE_CHAINS_4 : Nat} {osl_RARE_CHAINS_4 : Array (Option Value)}
  {hh_RARE_CHAINS_4 : Int} {vt_RARE_CHAINS_4 : Tok}
  {da_RARE_CHAINS : Addr} {ep_RARE_CHAINS : Nat}
  (a0 : W.nsIn K mainGlobals "plus" = some (some (.ref f0))) (l0 : K.lookup f0 = some ⟨oc0, od0, .func (W.fnOf "plus" "plus" (zI ZA) (zE ZA) (zd ZA) .none kV0 doc0 pm0 an0 cdv0 ct0), osl0⟩) (c0 : W.codeIn K cdv0 "plus" = true) (k0 : W.keepIn K (.ref f0) = true)
  (a1 : W.nsIn K mainGlobals "times" = some (some (.ref f1))) (l1 : K.lookup f1 = some ⟨oc1, od1, .func (W.fnOf "times" "times" (zI qU) (zE qU) (zd qU) .none kV1 doc1 pm1 an1 cdv1 ct1), osl1⟩) (c1 : W.codeIn K cdv1 "times" = true) (k1 : W.keepIn K (.ref f1) = true)
  (a2 : W.nsIn K mainGlobals "minus" = some (some (.ref f2))) (l2 : K.lookup f2 = some ⟨oc2, od2, .func (W.fnOf "minus" "minus" (zI qW) (zE qW) (zd qW) .none kV2 doc2 pm2 an2 cdv2 ct2), osl2⟩) (c2 : W.codeIn K cdv2 "minus" = true) (k2 : W.keepIn K (.ref f2) = true)
  (a3 : W.nsIn K mainGlobals "whole_sign" = some (some (.ref f3))) (l3 : K.lookup f3 = some ⟨oc3, od3, .func (W.fnOf "whole_sign" "whole_sign" (zI xv) (zE xv) (zd xv) .none kV3 doc3 pm3 an3 cdv3 ct3), osl3⟩) (c3 : W.codeIn K cdv3 "whole_sign" = true) (k3 : W.keepIn K (.ref f3) = true)
  (a4 : W.nsIn K mainGlobals "sign" = some (some (.ref f4))) (l4 : K.lookup f4 = some ⟨oc4, od4, .func (W.fnOf "sign" "sign" (zI Zx) (zE Zx) (zd Zx) .none kV4 doc4 pm4 an4 cdv4 ct4), osl4⟩) (c4 : W.codeIn K cdv4 "sign" = true) (k4 : W.keepIn K (.ref f4) = true)
  (a5 : W.nsIn K mainGlobals "turn_of" = some (some (.ref f5))) (l5 : K.lookup f5 = some ⟨oc5, od5, .func (W.fnOf "turn_of" "turn_of" (zI vj) (zE vj) (zd vj) .none kV5 doc5 pm5 an5 cdv5 ct5), osl5⟩) (c5 : W.codeIn K cdv5 "turn_of" = true) (k5 : W.keepIn K (.ref f5) = true)
  (a6 : W.nsIn K mainGlobals "pull" = some (some (.ref f6))) (l6 : K.lookup f6 = some ⟨oc6, od6, .func (W.fnOf "pull" "pull" (zI Zz) (zE Zz) (zd Zz) .none kV6 doc6 pm6 an6 cdv6 ct6), osl6⟩) (c6 : W.codeIn K cdv6 "pull" = true) (k6 : W.keepIn K (.ref f6) = true)
  (a7 : W.nsIn K mainGlobals "neighbours" = some (some (.ref f7))) (l7 : K.lookup f7 = some ⟨oc7, od7, .func (W.fnOf "neighbours" "neighbours" (zI xw) (zE xw) (zd xw) .none kV7 doc7 pm7 an7 cdv7 ct7), osl7⟩) (c7 : W.codeIn K cdv7 "neighbours" = true) (k7 : W.keepIn K (.ref f7) = true)
  (a8 : W.nsIn K mainGlobals "without" = some (some (.ref f8))) (l8 : K.lookup f8 = some ⟨oc8, od8, .func (W.fnOf "without" "without" (zI vi) (zE vi) (zd vi) .none kV8 doc8 pm8 an8 cdv8 ct8), osl8⟩) (c8 : W.codeIn K cdv8 "without" = true) (k8 : W.keepIn K (.ref f8) = true)
  (a9 : W.nsIn K mainGlobals "part_of" = some (some (.ref f9))) (l9 : K.lookup f9 = some ⟨oc9, od9, .func (W.fnOf "part_of" "part_of" (zI vk) (zE vk) (zd vk) .none kV9 doc9 pm9 an9 cdv9 ct9), osl9⟩) (c9 : W.codeIn K cdv9 "part_of" = true) (k9 : W.keepIn K (.ref f9) = true)
  (a10 : W.nsIn K mainGlobals "parts" = some (some (.ref f10))) (l10 : K.lookup f10 = some ⟨oc10, od10, .func (W.fnOf "parts" "parts" (zI qV) (zE qV) (zd qV) .none kV10 doc10 pm10 an10 cdv10 ct10), osl10⟩) (c10 : W.codeIn K cdv10 "parts" = true) (k10 : W.keepIn K (.ref f10) = true)
  (a11 : W.nsIn K mainGlobals "chain_from" = some (some (.ref f11))) (l11 : K.lookup f11 = some ⟨oc11, od11, .func (W.fnOf "chain_from" "chain_from" (zI xx) (zE xx) (zd xx) .none kV11 doc11 pm11 an11 cdv11 ct11), osl11⟩) (c11 : W.codeIn K cdv11 "chain_from" = true) (k11 : W.keepIn K (.ref f11) = true)
  (a12 : W.nsIn K mainGlobals "chains" = some (some (.ref f12))) (l12 : K.lookup f12 = some ⟨oc12, od12, .func (W.fnOf "chains" "chains" (zI uI) (zE uI) (zd uI) .none kV12 doc12 pm12 an12 cdv12 ct12), osl12⟩) (c12 : W.codeIn K cdv12 "chains" = true) (k12 : W.keepIn K (.ref f12) = true)
  (a13 : W.nsIn K mainGlobals "turns_along" = some (some (.ref f13))) (l13 : K.lookup f13 = some ⟨oc13, od13, .func (W.fnOf "turns_along" "turns_along" (zI xf) (zE xf) (zd xf) .none kV13 doc13 pm13 an13 cdv13 ct13), osl13⟩) (c13 : W.codeIn K cdv13 "turns_along" = true) (k13 : W.keepIn K (.ref f13) = true)
  (a14 : W.nsIn K mainGlobals "kind_of_chain" = some (some (.ref f14))) (l14 : K.lookup f14 = some ⟨oc14, od14, .func (W.fnOf "kind_of_chain" "kind_of_chain" (zI yI) (zE yI) (zd yI) .none kV14 doc14 pm14 an14 cdv14 ct14), osl14⟩) (c14 : W.codeIn K cdv14 "kind_of_chain" = true) (k14 : W.keepIn K (.ref f14) = true)
  (a15 : W.nsIn K mainGlobals "kind_with_one_beside" = some (some (.ref f15))) (l15 : K.lookup f15 = some ⟨oc15, od15, .func (W.fnOf "kind_with_one_beside" "kind_with_one_beside" (zI zX) (zE zX) (zd zX) .none kV15 doc15 pm15 an15 cdv15 ct15), osl15⟩) (c15 : W.codeIn K cdv15 "kind_with_one_beside" = true) (k15 : W.keepIn K (.ref f15) = true)
  (a16 : W.nsIn K mainGlobals "kinds_by_chains" = some (some (.ref f16))) (l16 : K.lookup f16 = some ⟨oc16, od16, .func (W.fnOf "kinds_by_chains" "kinds_by_chains" (zI yt) (zE yt) (zd yt) .none kV16 doc16 pm16 an16 cdv16 ct16), osl16⟩) (c16 : W.codeIn K cdv16 "kinds_by_chains" = true) (k16 : W.keepIn K (.ref f16) = true)
  (a17 : W.nsIn K mainGlobals "all_by_three" = some (some (.ref f17))) (l17 : K.lookup f17 = some ⟨oc17, od17, .func (W.fnOf "all_by_three" "all_by_three" (zI yU) (zE yU) (zd yU) .none kV17 doc17 pm17 an17 cdv17 ct17), osl17⟩) (c17 : W.codeIn K cdv17 "all_by_three" = true) (k17 : W.keepIn K (.ref f17) = true)
  (a18 : W.nsIn K mainGlobals "kinds_by_ends" = some (some (.ref f18))) (l18 : K.lookup f18 = some ⟨oc18, od18, .func (W.fnOf "kinds_by_ends" "kinds_by_ends" (zI yH) (zE yH) (zd yH) .none kV18 doc18 pm18 an18 cdv18 ct18), osl18⟩) (c18 : W.codeIn K cdv18 "kinds_by_ends" = true) (k18 : W.keepIn K (.ref f18) = true)
  (a19 : W.nsIn K mainGlobals "kind_of" = some (some (.ref f19))) (l19 : K.lookup f19 = some ⟨oc19, od19, .func (W.fnOf "kind_of" "kind_of" (zI vq) (zE vq) (zd vq) .none kV19 doc19 pm19 an19 cdv19 ct19), osl19⟩) (c19 : W.codeIn K cdv19 "kind_of" = true) (k19 : W.keepIn K (.ref f19) = true)
  (a20 : W.nsIn K mainGlobals "kinds" = some (some (.ref f20))) (l20 : K.lookup f20 = some ⟨oc20, od20, .func (W.fnOf "kinds" "kinds" (zI qY) (zE qY) (zd qY) .none kV20 doc20 pm20 an20 cdv20 ct20), osl20⟩) (c20 : W.codeIn K cdv20 "kinds" = true) (k20 : W.keepIn K (.ref f20) = true)
  (a21 : W.nsIn K mainGlobals "endless" = some (some (.ref f21))) (l21 : K.lookup f21 = some ⟨oc21, od21, .func (W.fnOf "endless" "endless" (zI vw) (zE vw) (zd vw) .none kV21 doc21 pm21 an21 cdv21 ct21), osl21⟩) (c21 : W.codeIn K cdv21 "endless" = true) (k21 : W.keepIn K (.ref f21) = true)
  (a22 : W.nsIn K mainGlobals "simple" = some (some (.ref f22))) (l22 : K.lookup f22 = some ⟨oc22, od22, .func (W.fnOf "simple" "simple" (zI uF) (zE uF) (zd uF) .none kV22 doc22 pm22 an22 cdv22 ct22), osl22⟩) (c22 : W.codeIn K cdv22 "simple" = true) (k22 : W.keepIn K (.ref f22) = true)
  (a23 : W.nsIn K mainGlobals "mirrored" = some (some (.ref f23))) (l23 : K.lookup f23 = some ⟨oc23, od23, .func (W.fnOf "mirrored" "mirrored" (zI wI) (zE wI) (zd wI) .none kV23 doc23 pm23 an23 cdv23 ct23), osl23⟩) (c23 : W.codeIn K cdv23 "mirrored" = true) (k23 : W.keepIn K (.ref f23) = true)
  (a24 : W.nsIn K mainGlobals "led" = some (some (.ref f24))) (l24 : K.lookup f24 = some ⟨oc24, od24, .func (W.fnOf "led" "led" (zI V7) (zE V7) (zd V7) .none kV24 doc24 pm24 an24 cdv24 ct24), osl24⟩) (c24 : W.codeIn K cdv24 "led" = true) (k24 : W.keepIn K (.ref f24) = true)
  (a25 : W.nsIn K mainGlobals "images" = some (some (.ref f25))) (l25 : K.lookup f25 = some ⟨oc25, od25, .func (W.fnOf "images" "images" (zI uH) (zE uH) (zd uH) .none kV25 doc25 pm25 an25 cdv25 ct25), osl25⟩) (c25 : W.codeIn K cdv25 "images" = true) (k25 : W.keepIn K (.ref f25) = true)
  (a26 : W.nsIn K mainGlobals "less_by" = some (some (.ref f26))) (l26 : K.lookup f26 = some ⟨oc26, od26, .func (W.fnOf "less_by" "less_by" (zI vm) (zE vm) (zd vm) .none kV26 doc26 pm26 an26 cdv26 ct26), osl26⟩) (c26 : W.codeIn K cdv26 "less_by" = true) (k26 : W.keepIn K (.ref f26) = true)
  (a27 : W.nsIn K mainGlobals "images_with_behind" = some (some (.ref f27))) (l27 : K.lookup f27 = some ⟨oc27, od27, .func (W.fnOf "images_with_behind" "images_with_behind" (zI z9) (zE z9) (zd z9) .none kV27 doc27 pm27 an27 cdv27 ct27), osl27⟩) (c27 : W.codeIn K cdv27 "images_with_behind" = true) (k27 : W.keepIn K (.ref f27) = true)
  (a28 : W.nsIn K mainGlobals "is_above" = some (some (.ref f28))) (l28 : K.lookup f28 = some ⟨oc28, od28, .func (W.fnOf "is_above" "is_above" (zI wK) (zE wK) (zd wK) .none kV28 doc28 pm28 an28 cdv28 ct28), osl28⟩) (c28 : W.codeIn K cdv28 "is_above" = true) (k28 : W.keepIn K (.ref f28) = true)
  (a29 : W.nsIn K mainGlobals "which_lengthen" = some (some (.ref f29))) (l29 : K.lookup f29 = some ⟨oc29, od29, .func (W.fnOf "which_lengthen" "which_lengthen" (zI yA) (zE yA) (zd yA) .none kV29 doc29 pm29 an29 cdv29 ct29), osl29⟩) (c29 : W.codeIn K cdv29 "which_lengthen" = true) (k29 : W.keepIn K (.ref f29) = true)
  (a30 : W.nsIn K mainGlobals "is_short" = some (some (.ref f30))) (l30 : K.lookup f30 = some ⟨oc30, od30, .func (W.fnOf "is_short" "is_short" (zI wJ) (zE wJ) (zd wJ) .none kV30 doc30 pm30 an30 cdv30 ct30), osl30⟩) (c30 : W.codeIn K cdv30 "is_short" = true) (k30 : W.keepIn K (.ref f30) = true)
  (a31 : W.nsIn K mainGlobals "length" = some (some (.ref f31))) (l31 : K.lookup f31 = some ⟨oc31, od31, .func (W.fnOf "length" "length" (zI uG) (zE uG) (zd uG) .none kV31 doc31 pm31 an31 cdv31 ct31), osl31⟩) (c31 : W.codeIn K cdv31 "length" = true) (k31 : W.keepIn K (.ref f31) = true)
  (a32 : W.nsIn K mainGlobals "_law_at" = some (some (.ref f32))) (l32 : K.lookup f32 = some ⟨oc32, od32, .func (W.fnOf "_law_at" "_law_at" (zI ZC) (zE ZC) (zd ZC) .none kV32 doc32 pm32 an32 cdv32 ct32), osl32⟩) (c32 : W.codeIn K cdv32 "_law_at" = true) (k32 : W.keepIn K (.ref f32) = true)
  (a33 : W.nsIn K mainGlobals "_law_mix" = some (some (.ref f33))) (l33 : K.lookup f33 = some ⟨oc33, od33, .func (W.fnOf "_law_mix" "_law_mix" (zI qX) (zE qX) (zd qX) .none kV33 doc33 pm33 an33 cdv33 ct33), osl33⟩) (c33 : W.codeIn K cdv33 "_law_mix" = true) (k33 : W.keepIn K (.ref f33) = true)
  (a34 : W.nsIn K mainGlobals "_law_whole" = some (some (.ref f34))) (l34 : K.lookup f34 = some ⟨oc34, od34, .func (W.fnOf "_law_whole" "_law_whole" (zI vn) (zE vn) (zd vn) .none kV34 doc34 pm34 an34 cdv34 ct34), osl34⟩) (c34 : W.codeIn K cdv34 "_law_whole" = true) (k34 : W.keepIn K (.ref f34) = true)
  (a35 : W.nsIn K mainGlobals "_law_first" = some (some (.ref f35))) (l35 : K.lookup f35 = some ⟨oc35, od35, .func (W.fnOf "_law_first" "_law_first" (zI vp) (zE vp) (zd vp) .none kV35 doc35 pm35 an35 cdv35 ct35), osl35⟩) (c35 : W.codeIn K cdv35 "_law_first" = true) (k35 : W.keepIn K (.ref f35) = true)
  (a36 : W.nsIn K mainGlobals "_law_house" = some (some (.ref f36))) (l36 : K.lookup f36 = some ⟨oc36, od36, .func (W.fnOf "_law_house" "_law_house" (zI vo) (zE vo) (zd vo) .none kV36 doc36 pm36 an36 cdv36 ct36), osl36⟩) (c36 : W.codeIn K cdv36 "_law_house" = true) (k36 : W.keepIn K (.ref f36) = true)
  (a37 : W.nsIn K mainGlobals "law" = some (some (.ref f37))) (l37 : K.lookup f37 = some ⟨oc37, od37, .func (W.fnOf "law" "law" (zI Ya) (zE Ya) (zd Ya) .none kV37 doc37 pm37 an37 cdv37 ct37), osl37⟩) (c37 : W.codeIn K cdv37 "law" = true) (k37 : W.keepIn K (.ref f37) = true)
  (b_all : W.nsIn K mainGlobals "all" = some none)
  (b_bool : W.nsIn K mainGlobals "bool" = some none)
  (b_enumerate : W.nsIn K mainGlobals "enumerate" = some none)
  (b_int : W.nsIn K mainGlobals "int" = some none)
  (b_isinstance : W.nsIn K mainGlobals "isinstance" = some none)
  (b_len : W.nsIn K mainGlobals "len" = some none)
  (b_list : W.nsIn K mainGlobals "list" = some none)
  (b_max : W.nsIn K mainGlobals "max" = some none)
  (b_min : W.nsIn K mainGlobals "min" = some none)
  (b_range : W.nsIn K mainGlobals "range" = some none)
  (b_reversed : W.nsIn K mainGlobals "reversed" = some none)
  (b_sorted : W.nsIn K mainGlobals "sorted" = some none)
  (b_sum : W.nsIn K mainGlobals "sum" = some none)
  (b_tuple : W.nsIn K mainGlobals "tuple" = some none)
  (b_zip : W.nsIn K mainGlobals "zip" = some none)
  (q_COMMON_TURN : W.nsIn K mainGlobals "COMMON_TURN" = some (some (.int 3 t_COMMON_TURN)))
  (q_NOT_TOLD : W.nsIn K mainGlobals "NOT_TOLD" = some (some (.int 2 t_NOT_TOLD)))
  (q_NOUGHT : W.nsIn K mainGlobals "NOUGHT" = some (some (.ref ta_NOUGHT)))
  (r_NOUGHT : K.lookup ta_NOUGHT = some ⟨.type "tuple", od_NOUGHT, .seq #[.int 0 tk_NOUGHT_0, .int 0 tk_NOUGHT_1] n_NOUGHT, osl_NOUGHT⟩)
  (q_NO_KIND : W.nsIn K mainGlobals "NO_KIND" = some (some (.str "-" t_NO_KIND)))
  (q_ONE : W.nsIn K mainGlobals "ONE" = some (some (.ref ta_ONE)))
  (r_ONE : K.lookup ta_ONE = some ⟨.type "tuple", od_ONE, .seq #[.int 1 tk_ONE_0, .int 0 tk_ONE_1] n_ONE, osl_ONE⟩)
  (q_PULLS_BELOW_NOUGHT : W.nsIn K mainGlobals "PULLS_BELOW_NOUGHT" = some (some (.ref da_PULLS_BELOW_NOUGHT)))
  (r_PULLS_BELOW_NOUGHT : K.lookup da_PULLS_BELOW_NOUGHT = some ⟨.type "dict", none, .dict #[⟨0, .int 0 kk_PULLS_BELOW_NOUGHT_0, .ref ta_PULLS_BELOW_NOUGHT_0⟩, ⟨2, .int 2 kk_PULLS_BELOW_NOUGHT_1, .ref ta_PULLS_BELOW_NOUGHT_1⟩, ⟨3, .int 3 kk_PULLS_BELOW_NOUGHT_2, .ref ta_PULLS_BELOW_NOUGHT_2⟩, ⟨4, .int 4 kk_PULLS_BELOW_NOUGHT_3, .ref ta_PULLS_BELOW_NOUGHT_3⟩, ⟨5, .int 5 kk_PULLS_BELOW_NOUGHT_4, .ref ta_PULLS_BELOW_NOUGHT_4⟩, ⟨6, .int 6 kk_PULLS_BELOW_NOUGHT_5, .ref ta_PULLS_BELOW_NOUGHT_5⟩] ep_PULLS_BELOW_NOUGHT, #[]⟩)
  (r_PULLS_BELOW_NOUGHT_0 : K.lookup ta_PULLS_BELOW_NOUGHT_0 = some ⟨.type "tuple", od_PULLS_BELOW_NOUGHT_0, .seq #[.int 2 tk_PULLS_BELOW_NOUGHT_0_0, .int 0 tk_PULLS_BELOW_NOUGHT_0_1] n_PULLS_BELOW_NOUGHT_0, osl_PULLS_BELOW_NOUGHT_0⟩)
  (r_PULLS_BELOW_NOUGHT_1 : K.lookup ta_PULLS_BELOW_NOUGHT_1 = some ⟨.type "tuple", od_PULLS_BELOW_NOUGHT_1, .seq #[.int 0 tk_PULLS_BELOW_NOUGHT_1_0, .int 0 tk_PULLS_BELOW_NOUGHT_1_1] n_PULLS_BELOW_NOUGHT_1, osl_PULLS_BELOW_NOUGHT_1⟩)
  (r_PULLS_BELOW_NOUGHT_2 : K.lookup ta_PULLS_BELOW_NOUGHT_2 = some ⟨.type "tuple", od_PULLS_BELOW_NOUGHT_2, .seq #[.int 1 tk_PULLS_BELOW_NOUGHT_2_0, .int 0 tk_PULLS_BELOW_NOUGHT_2_1] n_PULLS_BELOW_NOUGHT_2, osl_PULLS_BELOW_NOUGHT_2⟩)
  (r_PULLS_BELOW_NOUGHT_3 : K.lookup ta_PULLS_BELOW_NOUGHT_3 = some ⟨.type "tuple", od_PULLS_BELOW_NOUGHT_3, .seq #[.int 2 tk_PULLS_BELOW_NOUGHT_3_0, .int 0 tk_PULLS_BELOW_NOUGHT_3_1] n_PULLS_BELOW_NOUGHT_3, osl_PULLS_BELOW_NOUGHT_3⟩)
  (r_PULLS_BELOW_NOUGHT_4 : K.lookup ta_PULLS_BELOW_NOUGHT_4 = some ⟨.type "tuple", od_PULLS_BELOW_NOUGHT_4, .seq #[.int 0 tk_PULLS_BELOW_NOUGHT_4_0, .int 1 tk_PULLS_BELOW_NOUGHT_4_1] n_PULLS_BELOW_NOUGHT_4, osl_PULLS_BELOW_NOUGHT_4⟩)
  (r_PULLS_BELOW_NOUGHT_5 : K.lookup ta_PULLS_BELOW_NOUGHT_5 = some ⟨.type "tuple", od_PULLS_BELOW_NOUGHT_5, .seq #[.int 3 tk_PULLS_BELOW_NOUGHT_5_0, .int 0 tk_PULLS_BELOW_NOUGHT_5_1] n_PULLS_BELOW_NOUGHT_5, osl_PULLS_BELOW_NOUGHT_5⟩)
  (q_RARE_CHAINS : W.nsIn K mainGlobals "RARE_CHAINS" = some (some (.ref da_RARE_CHAINS)))
  (r_RARE_CHAINS : K.lookup da_RARE_CHAINS = some ⟨.type "dict", none, .dict #[⟨hh_RARE_CHAINS_0, .ref ta_RARE_CHAINS_0, .str "f4" vt_RARE_CHAINS_0⟩, ⟨hh_RARE_CHAINS_1, .ref ta_RARE_CHAINS_1, .str "h3" vt_RARE_CHAINS_1⟩, ⟨hh_RARE_CHAINS_2, .ref ta_RARE_CHAINS_2, .str "h4" vt_RARE_CHAINS_2⟩, ⟨hh_RARE_CHAINS_3, .ref ta_RARE_CHAINS_3, .str "i5" vt_RARE_CHAINS_3⟩, ⟨hh_RARE_CHAINS_4, .ref ta_RARE_CHAINS_4, .str "i6" vt_RARE_CHAINS_4⟩] ep_RARE_CHAINS, #[]⟩)
  (r_RARE_CHAINS_0 : K.lookup ta_RARE_CHAINS_0 = some ⟨.type "tuple", od_RARE_CHAINS_0, .seq #[.int 3 tk_RARE_CHAINS_0_0, .int 4 tk_RARE_CHAINS_0_1, .int 3 tk_RARE_CHAINS_0_2] n_RARE_CHAINS_0, osl_RARE_CHAINS_0⟩)
  (r_RARE_CHAINS_1 : K.lookup ta_RARE_CHAINS_1 = some ⟨.type "tuple", od_RARE_CHAINS_1, .seq #[.int 3 tk_RARE_CHAINS_1_0, .int 5 tk_RARE_CHAINS_1_1] n_RARE_CHAINS_1, osl_RARE_CHAINS_1⟩)
  (r_RARE_CHAINS_2 : K.lookup ta_RARE_CHAINS_2 = some ⟨.type "tuple", od_RARE_CHAINS_2, .seq #[.int 3 tk_RARE_CHAINS_2_0, .int 3 tk_RARE_CHAINS_2_1, .int 5 tk_RARE_CHAINS_2_2] n_RARE_CHAINS_2, osl_RARE_CHAINS_2⟩)
  (r_RARE_CHAINS_3 : K.lookup ta_RARE_CHAINS_3 = some ⟨.type "tuple", od_RARE_CHAINS_3, .seq #[.int 5 tk_RARE_CHAINS_3_0] n_RARE_CHAINS_3, osl_RARE_CHAINS_3⟩)
  (r_RARE_CHAINS_4 : K.lookup ta_RARE_CHAINS_4 = some ⟨.type "tuple", od_RARE_CHAINS_4, .seq #[.int 6 tk_RARE_CHAINS_4_0] n_RARE_CHAINS_4, osl_RARE_CHAINS_4⟩)
  (kr_y_RARE_CHAINS : (da_RARE_CHAINS == sysModules) = false)
  (kr_z_RARE_CHAINS_0 : UB [3, 4, 3] = hh_RARE_CHAINS_0)
  (kr_z_RARE_CHAINS_1 : UB [3, 5] = hh_RARE_CHAINS_1)
  (kr_z_RARE_CHAINS_2 : UB [3, 3, 5] = hh_RARE_CHAINS_2)
  (kr_z_RARE_CHAINS_3 : UB [5] = hh_RARE_CHAINS_3)
  (kr_z_RARE_CHAINS_4 : UB [6] = hh_RARE_CHAINS_4)
  : ∃ fd : FuncData, (∀ (s : Shared) (v : Value), BindsTo s fd ⟨[v], []⟩ [("_law_script", v)]) /\ ∀ base : Heap, K.In base -> base.Ns mainGlobals mg -> FnOk l.prog w K mg base CX0 9 fa fd ["_law_script"] (spF K 1 g_law) := by
 have e := hfa.symm.trans (W.mg_of X G a37)
 cases e
 have T : Txt K mg := ⟨trivial, W.mg_none_of X G b_all, W.mg_none_of X G b_bool, W.mg_none_of X G b_enumerate, W.mg_none_of X G b_int, W.mg_none_of X G b_isinstance, W.mg_none_of X G b_len, W.mg_none_of X G b_list, W.mg_none_of X G b_max, W.mg_none_of X G b_min, W.mg_none_of X G b_range, W.mg_none_of X G b_reversed, W.mg_none_of X G b_sorted, W.mg_none_of X G b_sum, W.mg_none_of X G b_tuple, W.mg_none_of X G b_zip, ⟨_, W.mg_of X G q_COMMON_TURN⟩, ⟨_, W.mg_of X G q_NOT_TOLD⟩, Q6 (xs := [.int 0, .int 0]) (W.mg_of X G q_NOUGHT) r_NOUGHT (show 2 <= sizeLine from by decide) (.cons ⟨_, rfl⟩ (.cons ⟨_, rfl⟩ .nil)) (.cons (Has.int_iff.mpr rfl) (.cons (Has.int_iff.mpr rfl) .nil)), ⟨_, W.mg_of X G q_NO_KIND⟩, Q6 (xs := [.int 1, .int 0]) (W.mg_of X G q_ONE) r_ONE (show 2 <= sizeLine from by decide) (.cons ⟨_, rfl⟩ (.cons ⟨_, rfl⟩ .nil)) (.cons (Has.int_iff.mpr rfl) (.cons (Has.int_iff.mpr rfl) .nil)), Gx (W.mg_of X G q_PULLS_BELOW_NOUGHT) r_PULLS_BELOW_NOUGHT (.cons (v := .ref _) (by rfl) rfl (uK (xs := [.int 2, .int 0]) r_PULLS_BELOW_NOUGHT_0 (show 2 <= sizeLine from by decide) (.cons ⟨_, rfl⟩ (.cons ⟨_, rfl⟩ .nil)) (.cons (Has.int_iff.mpr rfl) (.cons (Has.int_iff.mpr rfl) .nil))) (.cons (v := .ref _) (by rfl) rfl (uK (xs := [.int 0, .int 0]) r_PULLS_BELOW_NOUGHT_1 (show 2 <= sizeLine from by decide) (.cons ⟨_, rfl⟩ (.cons ⟨_, rfl⟩ .nil)) (.cons (Has.int_iff.mpr rfl) (.cons (Has.int_iff.mpr rfl) .nil))) (.cons (v := .ref _) (by rfl) rfl (uK (xs := [.int 1, .int 0]) r_PULLS_BELOW_NOUGHT_2 (show 2 <= sizeLine from by decide) (.cons ⟨_, rfl⟩ (.cons ⟨_, rfl⟩ .nil)) (.cons (Has.int_iff.mpr rfl) (.cons (Has.int_iff.mpr rfl) .nil))) (.cons (v := .ref _) (by rfl) rfl (uK (xs := [.int 2, .int 0]) r_PULLS_BELOW_NOUGHT_3 (show 2 <= sizeLine from by decide) (.cons ⟨_, rfl⟩ (.cons ⟨_, rfl⟩ .nil)) (.cons (Has.int_iff.mpr rfl) (.cons (Has.int_iff.mpr rfl) .nil))) (.cons (v := .ref _) (by rfl) rfl (uK (xs := [.int 0, .int 1]) r_PULLS_BELOW_NOUGHT_4 (show 2 <= sizeLine from by decide) (.cons ⟨_, rfl⟩ (.cons ⟨_, rfl⟩ .nil)) (.cons (Has.int_iff.mpr rfl) (.cons (Has.int_iff.mpr rfl) .nil))) (.cons (v := .ref _) (by rfl) rfl (uK (xs := [.int 3, .int 0]) r_PULLS_BELOW_NOUGHT_5 (show 2 <= sizeLine from by decide) (.cons ⟨_, rfl⟩ (.cons ⟨_, rfl⟩ .nil)) (.cons (Has.int_iff.mpr rfl) (.cons (Has.int_iff.mpr rfl) .nil))) .nil)))))) (by decide), Q9 (W.mg_of X G q_RARE_CHAINS) r_RARE_CHAINS kr_y_RARE_CHAINS (.cons (ks := [3, 4, 3]) (v := .str "f4") kr_z_RARE_CHAINS_0 r_RARE_CHAINS_0 (.cons ⟨_, rfl⟩ (.cons ⟨_, rfl⟩ (.cons ⟨_, rfl⟩ .nil))) ⟨_, rfl⟩ (Has.str_iff.mpr rfl) (.cons (ks := [3, 5]) (v := .str "h3") kr_z_RARE_CHAINS_1 r_RARE_CHAINS_1 (.cons ⟨_, rfl⟩ (.cons ⟨_, rfl⟩ .nil)) ⟨_, rfl⟩ (Has.str_iff.mpr rfl) (.cons (ks := [3, 3, 5]) (v := .str "h4") kr_z_RARE_CHAINS_2 r_RARE_CHAINS_2 (.cons ⟨_, rfl⟩ (.cons ⟨_, rfl⟩ (.cons ⟨_, rfl⟩ .nil))) ⟨_, rfl⟩ (Has.str_iff.mpr rfl) (.cons (ks := [5]) (v := .str "i5") kr_z_RARE_CHAINS_3 r_RARE_CHAINS_3 (.cons ⟨_, rfl⟩ .nil) ⟨_, rfl⟩ (Has.str_iff.mpr rfl) (.cons (ks := [6]) (v := .str "i6") kr_z_RARE_CHAINS_4 r_RARE_CHAINS_4 (.cons ⟨_, rfl⟩ .nil) ⟨_, rfl⟩ (Has.str_iff.mpr rfl) .nil))))) (by decide)⟩
 have F0 := yc (st := ZA) l0 c0 k0
 have B0 := F0.binds (ps := ["x", "y"]) fun _ _ _ _ _ _ => ZW (fun _ _ => rfl)
 have F1 := yc (st := qU) l1 c1 k1
 have B1 := F1.binds (ps := ["x", "y"]) fun _ _ _ _ _ _ => ZW (fun _ _ => rfl)
 have F2 := yc (st := qW) l2 c2 k2
 have B2 := F2.binds (ps := ["x"]) fun _ _ _ _ _ _ => UO (fun _ => rfl)
 have F3 := yc (st := xv) l3 c3 k3
 have B3 := F3.binds (ps := ["number"]) fun _ _ _ _ _ _ => UO (fun _ => rfl)
 have F4 := yc (st := Zx) l4 c4 k4
 have B4 := F4.binds (ps := ["x"]) fun _ _ _ _ _ _ => UO (fun _ => rfl)
 have F5 := yc (st := vj) l5 c5 k5
 have B5 := F5.binds (ps := ["house", "i", "j"]) fun _ _ _ _ _ _ => Hy (fun _ _ _ => rfl)
 have F6 := yc (st := Zz) l6 c6 k6
 have B6 := F6.binds (ps := ["house", "i", "j"]) fun _ _ _ _ _ _ => Hy (fun _ _ _ => rfl)
 have F7 := yc (st := xw) l7 c7 k7
 have B7 := F7.binds (ps := ["house", "mirror", "others"]) fun _ _ _ _ _ _ => Hy (fun _ _ _ => rfl)
 have F8 := yc (st := vi) l8 c8 k8
 have B8 := F8.binds (ps := ["mirrors", "mirror"]) fun _ _ _ _ _ _ => ZW (fun _ _ => rfl)
 have F9 := yc (st := vk) l9 c9 k9
 have B9 := F9.binds (ps := ["house", "mirror"]) fun _ _ _ _ _ _ => ZW (fun _ _ => rfl)
 have F10 := yc (st := qV) l10 c10 k10
 have B10 := F10.binds (ps := ["house"]) fun _ _ _ _ _ _ => UO (fun _ => rfl)
 have F11 := yc (st := xx) l11 c11 k11
 have B11 := F11.binds (ps := ["house", "mirrors", "first"]) fun _ _ _ _ _ _ => Hy (fun _ _ _ => rfl)
 have F12 := yc (st := uI) l12 c12 k12
 have B12 := F12.binds (ps := ["house", "mirrors"]) fun _ _ _ _ _ _ => ZW (fun _ _ => rfl)
 have F13 := yc (st := xf) l13 c13 k13
 have B13 := F13.binds (ps := ["house", "order"]) fun _ _ _ _ _ _ => ZW (fun _ _ => rfl)
 have F14 := yc (st := yI) l14 c14 k14
 have B14 := F14.binds (ps := ["turns"]) fun _ _ _ _ _ _ => UO (fun _ => rfl)
 have F15 := yc (st := zX) l15 c15 k15
 have B15 := F15.binds (ps := ["order", "mirror"]) fun _ _ _ _ _ _ => ZW (fun _ _ => rfl)
 have F16 := yc (st := yt) l16 c16 k16
 have B16 := F16.binds (ps := ["house", "part"]) fun _ _ _ _ _ _ => ZW (fun _ _ => rfl)
 have F17 := yc (st := yU) l17 c17 k17
 have B17 := F17.binds (ps := ["house", "part"]) fun _ _ _ _ _ _ => ZW (fun _ _ => rfl)
 have F18 := yc (st := yH) l18 c18 k18
 have B18 := F18.binds (ps := ["house", "part"]) fun _ _ _ _ _ _ => ZW (fun _ _ => rfl)
 have F19 := yc (st := vq) l19 c19 k19
 have B19 := F19.binds (ps := ["house", "part"]) fun _ _ _ _ _ _ => ZW (fun _ _ => rfl)
 have F20 := yc (st := qY) l20 c20 k20
 have B20 := F20.binds (ps := ["house"]) fun _ _ _ _ _ _ => UO (fun _ => rfl)
 have F21 := yc (st := vw) l21 c21 k21
 have B21 := F21.binds (ps := ["house"]) fun _ _ _ _ _ _ => UO (fun _ => rfl)
 have F22 := yc (st := uF) l22 c22 k22
 have B22 := F22.binds (ps := ["house", "i"]) fun _ _ _ _ _ _ => ZW (fun _ _ => rfl)
 have F23 := yc (st := wI) l23 c23 k23
 have B23 := F23.binds (ps := ["house", "i", "row"]) fun _ _ _ _ _ _ => Hy (fun _ _ _ => rfl)
 have F24 := yc (st := V7) l24 c24 k24
 have B24 := F24.binds (ps := ["house", "word", "row"]) fun _ _ _ _ _ _ => Hy (fun _ _ _ => rfl)
 have F25 := yc (st := uH) l25 c25 k25
 have B25 := F25.binds (ps := ["house", "word"]) fun _ _ _ _ _ _ => ZW (fun _ _ => rfl)
 have F26 := yc (st := vm) l26 c26 k26
 have B26 := F26.binds (ps := ["row", "factor", "other"]) fun _ _ _ _ _ _ => Hy (fun _ _ _ => rfl)
 have F27 := yc (st := z9) l27 c27 k27
 have B27 := F27.binds (ps := ["house", "rows", "i"]) fun _ _ _ _ _ _ => Hy (fun _ _ _ => rfl)
 have F28 := yc (st := wK) l28 c28 k28
 have B28 := F28.binds (ps := ["row"]) fun _ _ _ _ _ _ => UO (fun _ => rfl)
 have F29 := yc (st := yA) l29 c29 k29
 have B29 := F29.binds (ps := ["house", "word"]) fun _ _ _ _ _ _ => ZW (fun _ _ => rfl)
 have F30 := yc (st := wJ) l30 c30 k30
 have B30 := F30.binds (ps := ["house", "word"]) fun _ _ _ _ _ _ => ZW (fun _ _ => rfl)
 have F31 := yc (st := uG) l31 c31 k31
 have B31 := F31.binds (ps := ["house", "word"]) fun _ _ _ _ _ _ => ZW (fun _ _ => rfl)
 have F32 := yc (st := ZC) l32 c32 k32
 have B32 := F32.binds (ps := ["_law_script", "_law_k"]) fun _ _ _ _ _ _ => ZW (fun _ _ => rfl)
 have F33 := yc (st := qX) l33 c33 k33
 have B33 := F33.binds (ps := ["_law_number", "_law_place"]) fun _ _ _ _ _ _ => ZW (fun _ _ => rfl)
 have F34 := yc (st := vn) l34 c34 k34
 have B34 := F34.binds (ps := ["_law_found"]) fun _ _ _ _ _ _ => UO (fun _ => rfl)
 have F35 := yc (st := vp) l35 c35 k35
 have B35 := F35.binds (ps := ["_law_many", "_law_number"]) fun _ _ _ _ _ _ => ZW (fun _ _ => rfl)
 have F36 := yc (st := vo) l36 c36 k36
 have B36 := F36.binds (ps := ["_law_script"]) fun _ _ _ _ _ _ => UO (fun _ => rfl)
 have F37 := yc (st := Ya) l37 c37 k37
 have B37 := F37.binds (ps := ["_law_script"]) fun _ _ _ _ _ _ => UO (fun _ => rfl)
 refine ⟨W.fnOf "law" "law" (zI Ya) (zE Ya) (zd Ya) .none kV37 doc37 pm37 an37 cdv37 ct37, fun s v => .of_eq rfl, fun base _ _ => ?_⟩
 have H0 : HasFn l.prog w K mg base 1 "plus" 2 v8 := ⟨⟨_, _, _, BC F0 T , W.mg_of X G a0, k0, B0⟩⟩
 have H1 : HasFn l.prog w K mg base 1 "times" 2 wU := ⟨⟨_, _, _, KZ F1 T , W.mg_of X G a1, k1, B1⟩⟩
 have H2 : HasFn l.prog w K mg base 1 "minus" 1 wo := ⟨⟨_, _, _, K1 F2 T , W.mg_of X G a2, k2, B2⟩⟩
 have H3 : HasFn l.prog w K mg base 1 "whole_sign" 1 ym := ⟨⟨_, _, _, Yh F3 T , W.mg_of X G a3, k3, B3⟩⟩
 have H4 : HasFn l.prog w K mg base 2 "sign" 1 qB := ⟨⟨_, _, _, BA F4 T H3, W.mg_of X G a4, k4, B4⟩⟩
 have H5 : HasFn l.prog w K mg base 1 "turn_of" 3 yS := ⟨⟨_, _, _, Ue F5 T , W.mg_of X G a5, k5, B5⟩⟩
 have H6 : HasFn l.prog w K mg base 2 "pull" 3 y8 := ⟨⟨_, _, _, BB F6 T H2 H5, W.mg_of X G a6, k6, B6⟩⟩
 have H7 : HasFn l.prog w K mg base 2 "neighbours" 3 zS := ⟨⟨_, _, _, Yi F7 T H5, W.mg_of X G a7, k7, B7⟩⟩
 have H8 : HasFn l.prog w K mg base 1 "without" 2 yK := ⟨⟨_, _, _, Ud F8 T , W.mg_of X G a8, k8, B8⟩⟩
 have H9 : HasFn l.prog w K mg base 3 "part_of" 2 wV := ⟨⟨_, _, _, Ug F9 T H7 H8, W.mg_of X G a9, k9, B9⟩⟩
 have H10 : HasFn l.prog w K mg base 4 "parts" 1 jh := ⟨⟨_, _, _, K0 F10 T H9, W.mg_of X G a10, k10, B10⟩⟩
 have H11 : HasFn l.prog w K mg base 3 "chain_from" 3 yL := ⟨⟨_, _, _, Yj F11 T H7 H8, W.mg_of X G a11, k11, B11⟩⟩
 have H12 : HasFn l.prog w K mg base 4 "chains" 2 wB := ⟨⟨_, _, _, QB F12 T H11, W.mg_of X G a12, k12, B12⟩⟩
 have H13 : HasFn l.prog w K mg base 2 "turns_along" 2 yO := ⟨⟨_, _, _, Zl F13 T H5, W.mg_of X G a13, k13, B13⟩⟩
 have H14 : HasFn l.prog w K mg base 1 "kind_of_chain" 1 yn := ⟨⟨_, _, _, jO F14 T , W.mg_of X G a14, k14, B14⟩⟩
 have H15 : HasFn l.prog w K mg base 1 "kind_with_one_beside" 2 zC := ⟨⟨_, _, _, vQ F15 T , W.mg_of X G a15, k15, B15⟩⟩
 have H16 : HasFn l.prog w K mg base 5 "kinds_by_chains" 2 yu := ⟨⟨_, _, _, qw F16 T H12 H14 H13, W.mg_of X G a16, k16, B16⟩⟩
 have H17 : HasFn l.prog w K mg base 1 "all_by_three" 2 yq := ⟨⟨_, _, _, kc F17 T , W.mg_of X G a17, k17, B17⟩⟩
 have H18 : HasFn l.prog w K mg base 5 "kinds_by_ends" 2 yv := ⟨⟨_, _, _, jN F18 T H17 H12 H15 H7 H8, W.mg_of X G a18, k18, B18⟩⟩
 have H19 : HasFn l.prog w K mg base 6 "kind_of" 2 y9 := ⟨⟨_, _, _, Ul F19 T H16 H18, W.mg_of X G a19, k19, B19⟩⟩
 have H20 : HasFn l.prog w K mg base 7 "kinds" 1 ji := ⟨⟨_, _, _, K3 F20 T H19 H10, W.mg_of X G a20, k20, B20⟩⟩
 have H21 : HasFn l.prog w K mg base 8 "endless" 1 vI := ⟨⟨_, _, _, Um F21 T H20, W.mg_of X G a21, k21, B21⟩⟩
 have H22 : HasFn l.prog w K mg base 1 "simple" 2 xg := ⟨⟨_, _, _, Qy F22 T , W.mg_of X G a22, k22, B22⟩⟩
 have H23 : HasFn l.prog w K mg base 3 "mirrored" 3 xS := ⟨⟨_, _, _, X9 F23 T H2 H0 H6 H1, W.mg_of X G a23, k23, B23⟩⟩
 have H24 : HasFn l.prog w K mg base 4 "led" 3 kF := ⟨⟨_, _, _, Fi F24 T H23, W.mg_of X G a24, k24, B24⟩⟩
 have H25 : HasFn l.prog w K mg base 5 "images" 2 uM := ⟨⟨_, _, _, QA F25 T H24 H22, W.mg_of X G a25, k25, B25⟩⟩
 have H26 : HasFn l.prog w K mg base 2 "less_by" 3 x9 := ⟨⟨_, _, _, Uh F26 T H2 H0 H1, W.mg_of X G a26, k26, B26⟩⟩
 have H27 : HasFn l.prog w K mg base 3 "images_with_behind" 3 zW := ⟨⟨_, _, _, uk F27 T H26 H6, W.mg_of X G a27, k27, B27⟩⟩
 have H28 : HasFn l.prog w K mg base 3 "is_above" 1 xT := ⟨⟨_, _, _, Wb F28 T H4, W.mg_of X G a28, k28, B28⟩⟩
 have H29 : HasFn l.prog w K mg base 6 "which_lengthen" 2 zZ := ⟨⟨_, _, _, q9 F29 T H25 H27 H28, W.mg_of X G a29, k29, B29⟩⟩
 have H30 : HasFn l.prog w K mg base 7 "is_short" 2 wM := ⟨⟨_, _, _, Wa F30 T H29, W.mg_of X G a30, k30, B30⟩⟩
 have H31 : HasFn l.prog w K mg base 7 "length" 2 uL := ⟨⟨_, _, _, Qz F31 T H29, W.mg_of X G a31, k31, B31⟩⟩
 have H32 : HasFn l.prog w K mg base 1 "_law_at" 2 uq := ⟨⟨_, _, _, BD F32 T , W.mg_of X G a32, k32, B32⟩⟩
 have H33 : HasFn l.prog w K mg base 1 "_law_mix" 2 xK := ⟨⟨_, _, _, K2 F33 T , W.mg_of X G a33, k33, B33⟩⟩
 have H34 : HasFn l.prog w K mg base 1 "_law_whole" 1 vG := ⟨⟨_, _, _, Ui F34 T , W.mg_of X G a34, k34, B34⟩⟩
 have H35 : HasFn l.prog w K mg base 1 "_law_first" 2 wc := ⟨⟨_, _, _, Uk F35 T , W.mg_of X G a35, k35, B35⟩⟩
 have H36 : HasFn l.prog w K mg base 2 "_law_house" 1 vH := ⟨⟨_, _, _, Uj F36 T H32 H35 H33, W.mg_of X G a36, k36, B36⟩⟩
 exact Fj F37 T H32 H36 H33 H34 H21 H30 H24 H31 H22
open GH
theorem N2 {a b : Int} (h1 : -3 <= a) (h2 : a <= 3) : u5 (.int a) (.int b) = some (.int (a * b)) := xR (vc (by omega) (by omega))
theorem szl {n : Nat} (h : n <= 100) : n <= sizeLine := g3b (wO (by omega))
theorem ix0 {x : D} {l : List D} : ixD (.tup (x :: l)) (.int 0) = some x := by simp [ixD, atI, ixN]
theorem ix1 {x y : D} {l : List D} : ixD (.tup (x :: y :: l)) (.int 1) = some y := by
 have h := js (xs := x :: y :: l) (j := 1) (v := y) rfl
 exact h
theorem Yd (x y : Gd) : v8 [gD x, gD y] = some (gD (yz x y)) := by simp [v8, JY, gD, ix0, ix1, yz, sizeLine_eq]
theorem ki (x : Gd) : wo [gD x] = some (gD (yD x)) := by simp [wo, WJ, gD, ix0, ix1, yD, sizeLine_eq]
theorem YL {x : Gd} (y : Gd) (h : -3 <= x.1 /\ x.1 <= 2 /\ -1 <= x.2 /\ x.2 <= 0) : wU [gD x, gD y] = some (gD (yE x y)) := by
 have m1 := fun b => @N2 x.1 b (by omega) (by omega)
 have m2 := fun b => @N2 x.2 b (by omega) (by omega)
 simp [wU, WH, gD, ix0, ix1, yE, m1, m2, sizeLine_eq]
theorem YK (h : D) (i j a b : Int) : ∀ (ts : List T3) (s1 s2 s3 : Slot), ∃ o, yC (qQ 3 (yg (zu 5) (yg (zu 6) (yg (zu 7) jF)))) (ifS (XQ (blF (zc eqF (vF 5) (vF 3))) (blF (zc eqF (vF 6) (vF 4)))) (yY (vF 7)) nxF) (ts.map tD)
  [.fr h, .fr (.int i), .fr (.int j), .fr (.int (mlo i j)), .fr (.int (mhi i j)), s1, s2, s3] = some o /\ Vd ((some o).bind fun o => match o with | .nx ρ' => yY (cF (.int 2)) ρ' | o => some o) = some (.int (zi ts i j))
 | [], s1, s2, s3 => ⟨_, rfl, rfl⟩
 | t :: ts, s1, s2, s3 => by
  obtain ⟨o, h1, h2⟩ := YK h i j a b ts (.fr (.int t.1)) (.fr (.int t.2.1)) (.fr (.int t.2.2))
  rw [g0f]
  unfold yC zi
  by_cases c1 : t.1 = mlo i j
  ·by_cases c2 : t.2.1 = mhi i j
   ·exact ⟨.rt (.int t.2.2), by simp [tD, c1, c2], by simp [c1, c2]⟩
   ·refine ⟨o, ?_, by simpa [c2] using h2⟩
    simp [tD, c1, c2] at h1 ⊢
    exact h1
  ·refine ⟨o, ?_, by simpa [c1] using h2⟩
   simp [tD, c1] at h1 ⊢
   exact h1
theorem ZZ (n : Nat) (ts : List T3) (i j : Int) : yS [zh n ts, .int i, .int j] = some (.int (zi ts i j)) := by
 obtain ⟨o, h1, h2⟩ := YK (zh n ts) i j 0 0 ts .no .no .no
 have e : ixD (zh n ts) (.int 1) = some (.lst (ts.map tD)) := by unfold zh; exact ix1
 simp [yS, Zb, e, g0e] at h2 ⊢
 unfold mlo mhi at h1
 simp at h1
 rw [h1]
 exact h2
theorem UL (m : Int) : inD false (.int m) (.tup [.int 4, .int 6]) = some (.bl (decide (m = 4 \/ m = 6))) := by
 simp [inD, uN, dep, eqD]
 by_cases h : m = 4
 ·subst h; rfl
 ·by_cases h' : m = 6
  ·subst h'; rfl
  ·have a : (4 == m) = false := by simpa using fun z : (4 : Int) = m => h z.symm
   have b : (6 == m) = false := by simpa using fun z : (6 : Int) = m => h' z.symm
   simp [a, b, h, h']
theorem W6 (n : Nat) {ts : List T3} (hg : xX ts) (i j : Int) : y8 [zh n ts, .int i, .int j] = some (gD (jL ts i j)) := by
 have t := ZZ n ts i j
 have gt := yT hg i j
 unfold jL
 by_cases h : i = j
 ·simp [y8, wZ, h, sizeLine_eq, gD]
 ·generalize zi ts i j = m at t gt
  have mv := ki
  have cs : m = 0 \/ m = 2 \/ m = 3 \/ m = 4 \/ m = 5 \/ m = 6 := by omega
  by_cases h2 : j < i
  ·have h3 : ¬ i < j := by omega
   rcases cs with e | e | e | e | e | e <;> subst e
   ·have := mv (2, 0); simp [gD, yD] at this; simp [y8, wZ, h, h2, h3, t, UL, sizeLine_eq, je, g2j, zH, this, gD]
   ·have := mv (0, 0); simp [gD, yD] at this; simp [y8, wZ, h, h2, h3, t, UL, sizeLine_eq, je, g2j, zH, this, gD]
   ·have := mv (1, 0); simp [gD, yD] at this; simp [y8, wZ, h, h2, h3, t, UL, sizeLine_eq, je, g2j, zH, this, gD]
   ·simp [y8, wZ, h, h2, h3, t, UL, sizeLine_eq, zH, gD]
   ·have := mv (0, 1); simp [gD, yD] at this; simp [y8, wZ, h, h2, h3, t, UL, sizeLine_eq, je, g2j, zH, this, gD]
   ·simp [y8, wZ, h, h2, h3, t, UL, sizeLine_eq, zH, gD]
  ·have h3 : i < j := by omega
   rcases cs with e | e | e | e | e | e <;> subst e
   ·have := mv (2, 0); simp [gD, yD] at this; simp [y8, wZ, h, h2, h3, t, UL, sizeLine_eq, je, g2j, zH, this, gD]
   ·have := mv (0, 0); simp [gD, yD] at this; simp [y8, wZ, h, h2, h3, t, UL, sizeLine_eq, je, g2j, zH, this, gD]
   ·have := mv (1, 0); simp [gD, yD] at this; simp [y8, wZ, h, h2, h3, t, UL, sizeLine_eq, je, g2j, zH, this, gD]
   ·have := mv (2, 0); simp [gD, yD] at this; simp [y8, wZ, h, h2, h3, t, UL, sizeLine_eq, je, g2j, zH, this, gD]
   ·have := mv (0, 1); simp [gD, yD] at this; simp [y8, wZ, h, h2, h3, t, UL, sizeLine_eq, je, g2j, zH, this, gD]
   ·have := mv (3, 0); simp [gD, yD] at this; simp [y8, wZ, h, h2, h3, t, UL, sizeLine_eq, je, g2j, zH, this, gD]
theorem GK {α : Type} (xs : List α) (k : Nat) : Xq xs none (some (k : Int)) = xs.take k := by
 unfold Xq
 rw [HT.sIx_none, HT.sIx_nat, List.drop_zero, Nat.sub_zero]
 by_cases h : k <= xs.length
 ·rw [Nat.min_eq_left h]
 ·rw [Nat.min_eq_right (by omega), g2v (g0r _), g2v (by omega)]
theorem GL {α : Type} (xs : List α) (k : Nat) : Xq xs (some (k : Int)) none = xs.drop k := by
 unfold Xq
 rw [HT.sIx_none, HT.sIx_nat]
 by_cases h : k <= xs.length
 ·rw [Nat.min_eq_left h, g2v (by simp)]
 ·rw [Nat.min_eq_right (by omega), List.drop_of_length_le (g0r _), List.drop_of_length_le (by omega)]; simp
def Jj : Nat -> List D -> List D
 | _, [] => []
 | k, d :: ds => .tup [.int (k : Int), d] :: Jj (k + 1) ds
theorem Cg (ds : List D) : vW ds = Jj 0 ds := by
 have gen : ∀ (ds : List D) (k : Nat), (ds.zipIdx k).map (fun p => D.tup [.int (p.2 : Int), p.1]) = Jj k ds := by
  intro ds
  induction ds with
  | nil => intro k; rfl
  | cons d ds ih => intro k; rw [List.zipIdx_cons, g0f, ih]; rfl
 exact gen ds 0
theorem Mt {ds : List D} {i : Nat} {d : D} (h : ds[i]? = some d) : ixD (.tup ds) (.int (i : Int)) = some d := js h
theorem CL {ds : List D} {i : Nat} {d : D} (h : ds[i]? = some d) : ixD (.lst ds) (.int (i : Int)) = some d := js h
theorem Dv {r : List Gd} {i : Nat} (h : i < r.length) : ixD (wz r) (.int (i : Int)) = some (gD (r.getD i (0, 0))) := by
 unfold wz
 apply Mt
 simp [g0j, h]
theorem V0 {r : List Gd} {i : Nat} (x : Gd) (h : i < r.length) : (r.map gD).take i ++ gD x :: (r.map gD).drop (i + 1) = (r.set i x).map gD := by
 rw [List.map_set]
 apply List.ext_getElem?
 intro k
 rcases Nat.lt_trichotomy k i with hk | hk | hk
 ·rw [g1k (by simp; omega), g0x, if_neg (by omega), List.getElem?_take_of_lt hk]
 ·subst hk
  rw [g1j (by simp; omega)]
  simp [h, Nat.min_eq_left (g3b h)]
 ·rw [g1j (by simp; omega), g0x, if_neg (by omega)]
  have : k - (List.take i (List.map gD r)).length = (k - i - 1) + 1 := by simp; omega
  rw [this, g0c, List.getElem?_drop]
  congr 1
  omega
noncomputable def MD : FS := xh 3 (zN v8 (za (vF 3) (za (zN wU (za (zN y8 (za (vF 0) (za (vF 1) (za (vF 4) zw)))) (za (vF 5) zw))) zw)))
theorem Vj (n : Nat) {ts : List T3} (hg : xX ts) (i : Nat) (R : D) : ∀ (r : List Gd) (k : Nat) (acc : Gd) (s4 s5 : Slot), ∃ s4' s5', yC (qQ 2 (yg (zu 4) (yg (zu 5) jF))) MD (Jj k (r.map gD)) [.fr (zh n ts), .fr (.int i), .fr R, .fr (gD acc), s4, s5] =
  some (.nx [.fr (zh n ts), .fr (.int i), .fr R, .fr (gD (yX (zf ts i) k r acc)), s4', s5'])
 | [], k, acc, s4, s5 => ⟨s4, s5, rfl⟩
 | x :: r, k, acc, s4, s5 => by
  obtain ⟨s4', s5', e⟩ := Vj n hg i R r (k + 1) (yz acc (yE (zf ts i k) x)) (.fr (.int k)) (.fr (gD x))
  refine ⟨s4', s5', ?_⟩
  have p := W6 n hg (i : Int) (k : Int)
  have m := YL x (u4 ts i k)
  have a := Yd acc (yE (jL ts i k) x)
  rw [g0f]
  unfold Jj yC
  simp [MD, p, m, a]
  unfold MD at e
  exact e
theorem Y7 (n : Nat) {ts : List T3} (hg : xX ts) {i : Nat} {r : List Gd} (hi : i < r.length) (hr : r.length <= 100) : xS [zh n ts, .int i, wz r] = some (wz (w8 (zf ts i) i r)) := by
 obtain ⟨s4', s5', e⟩ := Vj n hg i (wz r) r 0 (0, 0) .no .no
 have mi := ki (yX (zf ts i) 0 r (0, 0))
 have pl := Yd (r.getD i (0, 0)) (yD (yX (zf ts i) 0 r (0, 0)))
 have ra := Dv hi
 have z1 : i <= sizeLine := szl (by omega)
 have e0 : gD (0, 0) = .tup [.int 0, .int 0] := rfl
 rw [e0, <- Cg] at e
 have sl := V0 (yz (r.getD i (0, 0)) (yD (yX (zf ts i) 0 r (0, 0)))) hi
 have s1 : jx (vF 2) noP (exP (vF 1)) [.fr (zh n ts), .fr (.int i), .fr (wz r), .fr (gD (yX (zf ts i) 0 r (0, 0))), s4', s5'] = some (.tup ((r.map gD).take i)) := by
  simp [wz, GK]
 have s2 : jx (vF 2) (exP (zc ue (vF 1) (cF (.int 1)))) noP [.fr (zh n ts), .fr (.int i), .fr (wz r), .fr (gD (yX (zf ts i) 0 r (0, 0))), s4', s5'] = some (.tup ((r.map gD).drop (i + 1))) := by
  have := GL (r.map gD) (i + 1)
  simp [wz] at this ⊢
  exact this
 have it : ky (vF 2) [.fr (zh n ts), .fr (.int i), .fr (wz r), .fr (.tup [.int 0, .int 0]), .no, .no] = some (vW (r.map gD)) := by simp [wz]
 have a1 : ∀ x, ue (.tup ((r.map gD).take i)) (.tup [x]) = some (.tup ((r.map gD).take i ++ [x])) := fun x => by
  show (if _ then _ else _) = _
  rw [if_pos (szl (by simp; omega))]
 have a2 : ∀ x, ue (.tup ((r.map gD).take i ++ [x])) (.tup ((r.map gD).drop (i + 1))) = some (.tup ((r.map gD).take i ++ [x] ++ (r.map gD).drop (i + 1))) := fun x => by
  show (if _ then _ else _) = _
  rw [if_pos (szl (by simp; omega))]
 unfold xS jt
 simp only [yF, zQ, g0f, g0y, g0d, g0m, g0e, g0v, g0s, zr, yJ, wL, g0a, g0i, g0g, qq, it]
 unfold MD at e
 rw [e]
 simp only [g0a, yx, zt, s1, s2, jz, zm, zA, zR, yB, g0b, g0c, ra, mi, pl, g0d, g0m]
 rw [if_pos (szl (by decide))]
 simp only [g0a, a1, a2, yR]
 unfold wz w8
 rw [<- sl, g1b]
 rfl
theorem Zv (n : Nat) (ts : List T3) (i : Nat) (hn : n <= 100) : xg [zh n ts, .int i] = some (wz (ye n i)) := by
 have e : ixD (zh n ts) (.int 0) = some (.int n) := by unfold zh; exact ix0
 have ra : uS [.int (n : Int)] = some (yZ 0 n) := vy (by omega) (by omega)
 have c := JF (f := ifF (blF (zc eqF (vF 0) (vF 1))) (cF (.tup [(.int 1), (.int 0)])) (cF (.tup [(.int 0), (.int 0)]))) (C := [.fr (.int (i : Int))]) (φ := fun j => gD (if j = i then (1, 0) else (0, 0))) (yZ 0 n) 0 .no (fun k d hk => by
  obtain ⟨rfl, _⟩ := ZF hk
  by_cases h : k = i
  ·simp [h, gD]
  ·have : ¬ (k : Int) = (i : Int) := by omega
   simp [h, this, gD])
 have hz : n <= sizeLine := szl (by omega)
 have hl : (yZ 0 (n : Int)).length = n := by rw [qt]; omega
 simp only [hl, g1y] at c
 unfold xg YA
 simp only [yF, zQ, g0f, g0y, g0d, g0m, g0e, g0v, g0s, yx, zR, zm, zY, xG, Zy, zt, yB, wL, g0b, g0c, g0a, e, zA, ra, hl, if_pos hz, xQ, vx, c, g0z, Kt, yR]
 simp only [wz, ye, g1d]
 rfl
def y4 (w : List Nat) : D := .tup (w.map fun (i : Nat) => .int (i : Int))
theorem UV (i : Int) : vG [.int i] = some (.bl true) := by simp [vG, Ze, VY, tyN]
open GH
theorem Hw (ns : List Int) (k : Nat) (hk : k <= 100) : ∃ c : Int, uq [.lst (ns.map D.int), .int k] = some (.int c) := by
 by_cases h : k < ns.length
 ·have e : ixD (.lst (ns.map D.int)) (.int (k : Int)) = some (.int (ns.getD k 0)) := js (by simp [g0j, h])
  have h' : (k : Int) < (ns.length : Int) := by omega
  exact ⟨ns.getD k 0, by simp [uq, VQ, h', e]⟩
 ·have h' : ¬ ((k : Int) < (ns.length : Int)) := by omega
  have m : u5 (.int 17) (.int (k : Int)) = some (.int (17 * k)) := xR (vc (by decide) (by decide))
  exact ⟨17 * k + 9, by simp [uq, VQ, h', m]⟩
theorem Vi (k : Int) (s3 : Slot) : ∀ (l : List D) (c : Int) (s2 : Slot), ∃ (c' : Int) (s2' : Slot), yC (zu 2) (xh 0 (zc ur (vF 0) (cF (.int 2147483648)))) l [.fr (.int c), .fr (.int k), s2, s3] = some (.nx [.fr (.int c'), .fr (.int k), s2', s3])
 | [], c, s2 => ⟨c, s2, rfl⟩
 | d :: l, c, s2 => by
  obtain ⟨c', s2', e⟩ := Vi k s3 l (c / 2147483648) (.fr d)
  refine ⟨c', s2', ?_⟩
  have f := wC (i := c) (show (0 : Int) < 2147483648 by decide) (by decide)
  unfold yC
  simp only [wj, g0a, g0i, g0g, yJ, zt, yB, wL, g0b, g0c, f]
  exact e
theorem We (c : Int) (k : Nat) (hk : k <= 1000) : ∃ z : Int, 0 <= z /\ z < 2147483648 /\ xK [.int c, .int k] = some (.int z) := by
 have p12 : CW (.int 10) (.int 12) = some (.int (10 ^ 12)) := Be ⟨by decide, by decide, QM (k := 8) (by decide) (by decide)⟩
 by_cases hc : (10 : Int) ^ 12 <= c
 ·have f12 := wC (i := c) (show (0 : Int) < 10 ^ 12 by decide) (by decide)
  have md := xq (i := (k : Int)) (show (0 : Int) < 61 by decide)
  have ra : uS [.int ((k : Int) % 61)] = some (yZ 0 ((k : Int) % 61)) := vy (by omega) (by omega)
  obtain ⟨c', s2', e⟩ := Vi (k : Int) .no (yZ 0 ((k : Int) % 61)) (c / 10 ^ 12 - 1) .no
  have md2 := xq (i := c') (show (0 : Int) < 2147483648 by decide)
  refine ⟨c' % 2147483648, by omega, by omega, ?_⟩
  simp only [xK, YC, yF, zQ, g0f, g0y, g0d, g0m, Nat.reduceAdd, Nat.reduceSub, g0e, g0v, g0s, zr, wy, vO, zt, yB, wL, g0b, g0c, g0a, p12, NR, hc, decide_true, if_true, yJ, f12, V6, g0g, g0i, qq, Zy, zm, zA, md, ra]
  rw [e]
  simp only [g0a, yx, zt, yB, wL, g0b, md2, yR]
 ·have h0 : (0 : Int) <= (k : Int) * k := Int.mul_nonneg (by omega) (by omega)
  have h1 : (k : Int) * k <= 1000 * 1000 := Int.mul_le_mul (by omega) (by omega) (by omega) (by omega)
  have m1 : u5 (.int 8) (.int (k : Int)) = _ := xR (vc (by omega) (by omega))
  have m2 : u5 (.int (8 * (k : Int))) (.int (k : Int)) = _ := xR (vc (by omega) (by omega))
  have m3 : ∀ x : Int, u5 (.int (x % 2147483629 + k + 1)) (.int (8 * (k : Int) * k + 48271)) = _ := fun x => xR (vc (by omega) (by omega))
  have m4 : ∀ x : Int, u5 (.int (x % 2147483647)) (.int (x % 2147483647)) = _ := fun x => xR (vc (by omega) (by omega))
  have m5 : ∀ x y : Int, u5 (.int (x % 2147483587)) (.int y) = _ := fun x y => xR (vc (by omega) (by omega))
  refine ⟨_, ?_, ?_, by simp only [xK, YC, yF, zQ, g0f, g0y, g0d, g0m, Nat.reduceAdd, Nat.reduceSub, g0e, g0v, g0s, zr, wy, vO, zt, yB, wL, g0b, g0c, g0a, p12, NR, hc, decide_false, g1o, if_false, jK, yJ, m1, m2, Qd, xq (show (0 : Int) < 2147483629 by decide), m3, xq (show (0 : Int) < 2147483647 by decide), g0i, g0g, yx, m4, xq (show (0 : Int) < 2147483587 by decide), m5, xq (show (0 : Int) < 2147483579 by decide), yR]; rfl⟩ <;> omega
theorem Cw (r : List Gd) : dep (wz r) <= 100 := by
 have : uN (r.map gD) <= 1 := qf fun d hd => by
  obtain ⟨x, _, rfl⟩ := g1r.mp hd
  simp [gD, dep, uN]
 unfold wz dep
 omega
theorem Jh {d : D} (h : dep d <= 100) : eqF d d = some (.bl true) := by
 unfold eqF
 rw [if_pos h, vU]
theorem QH {d : D} (h : dep d <= 100) : neF d d = some (.bl false) := by
 unfold neF
 rw [if_pos h, vU]
 rfl
theorem Jv (n : Nat) (ts : List T3) : dep (zh n ts) <= 100 := by
 have : uN (ts.map tD) <= 1 := qf fun d hd => by
  obtain ⟨x, _, rfl⟩ := g1r.mp hd
  simp [tD, dep, uN]
 simp [zh, dep, uN]
 omega
theorem YW (n : Nat) {ts : List T3} (hg : xX ts) (W : D) (hn : n <= 100) : ∀ (l : List Nat) (r : List Gd) (s3 : Slot), r.length = n -> (∀ i ∈ l, i < n) -> ∃ s3', yC (zu 3) (xh 2 (zN xS (za (vF 0) (za (vF 3) (za (vF 2) zw))))) (l.map fun (i : Nat) => .int (i : Int)) [.fr (zh n ts), .fr W, .fr (wz r), s3] =
  some (.nx [.fr (zh n ts), .fr W, .fr (wz (l.foldl (fun r i => w8 (zf ts i) i r) r)), s3'])
 | [], r, s3, hr, hl => ⟨s3, rfl⟩
 | i :: l, r, s3, hr, hl => by
  have hi := hl i g0l
  have m := Y7 n hg (i := i) (r := r) (by omega) (by omega)
  obtain ⟨t3, e'⟩ := YW n hg W hn l (w8 (zf ts i) i r) (.fr (.int i)) (by rw [zV, hr]) (fun j hj => hl j (g0o _ hj))
  refine ⟨t3, ?_⟩
  rw [g0f]
  unfold yC
  simp only [wj, g0a, g0i, g0g, yJ, zR, zm, zA, yB, g0b, g0c, m]
  exact e'
theorem Va (n : Nat) {ts : List T3} (hg : xX ts) {w : List Nat} {r : List Gd} (hn : n <= 100) (hr : r.length = n) (hw : ∀ i ∈ w, i < n) : kF [zh n ts, y4 w, wz r] = some (wz (yf (zf ts) w r)) := by
 obtain ⟨t3, e⟩ := YW n hg (y4 w) hn w.reverse r .no hr (fun i hi => hw i (by simpa using hi))
 have er : (w.map fun (i : Nat) => D.int (i : Int)).reverse = w.reverse.map fun (i : Nat) => D.int (i : Int) := by simp
 unfold kF CU
 simp only [yF, zQ, g0f, g0y, g0d, g0m, Nat.reduceAdd, Nat.reduceSub, g0e, g0v, g0s, zr, qq, Ku, yB, g0b, g0c, g0a, y4, er]
 unfold y4 at e
 rw [e]
 simp only [g0a, yx, yB, g0b, g0c, yR, yf, List.foldl_reverse]
def ZL (ts : List T3) (n : Nat) (w : List Nat) : List (List Gd) := (g0u n).map fun i => yf (zf ts) w (ye n i)
def qZ (rs : List (List Gd)) : D := .lst (rs.map wz)
theorem X7 (n : Nat) {ts : List T3} (hg : xX ts) {w : List Nat} (hn : n <= 100) (hw : ∀ i ∈ w, i < n) : uM [zh n ts, y4 w] = some (qZ (ZL ts n w)) := by
 have e : ixD (zh n ts) (.int 0) = some (.int n) := by unfold zh; exact ix0
 have ra : uS [.int (n : Int)] = some (yZ ((0 : Nat) : Int) n) := vy (by omega) (by omega)
 have c := JF (f := zN kF (za (vF 1) (za (vF 2) (za (zN xg (za (vF 1) (za (vF 0) zw))) zw)))) (C := [.fr (zh n ts), .fr (y4 w)]) (φ := fun i => wz (yf (zf ts) w (ye n i))) (yZ ((0 : Nat) : Int) n) 0 .no (fun k d hk => by
  obtain ⟨rfl, _⟩ := ZF hk
  have sv := Zv n ts k hn
  have lv := Va n hg hn (zg n k) hw
  have e2 : ((0 : Nat) : Int) + (k : Int) = (k : Int) := by omega
  simp only [zR, zm, zA, yB, g0c, g0b, g0a, e2, sv, lv, g1y])
 have hl : (yZ ((0 : Nat) : Int) (n : Int)).length = n := by rw [qt]; omega
 have hi : J3 (za (zc ixD (vF 0) (cF (.int 0))) zw) [.fr (zh n ts), .fr (y4 w)] = some (yZ ((0 : Nat) : Int) n) := by
  simp only [Zy, zm, zt, yB, g0b, wL, g0a, e, zA, ra]
 have hc := qH (n := 1) (caps := [0, 1]) (γ := zu 0) (ft := ttF) (f := zN kF (za (vF 1) (za (vF 2) (za (zN xg (za (vF 1) (za (vF 0) zw))) zw)))) hi (by rw [hl]; exact szl (by omega))
 have cs : uv 1 [0, 1] [.fr (zh n ts), .fr (y4 w)] = [.no, .fr (zh n ts), .fr (y4 w)] := rfl
 rw [cs, c, hl] at hc
 simp only [uM, YD, yF, zQ, g0f, g0y, g0d, g0m, Nat.reduceAdd, Nat.reduceSub, g0e, g0t, yx, zY, hc, g0a, g0z, yR, g1y]
 simp only [qZ, ZL, g1d, Function.comp_def]
theorem YH (n : Int) : ym [.int n] = some (.int (M02.wsgn n)) := by
 unfold M02.wsgn
 by_cases h : 0 < n
 ·simp [ym, wg, h]
 ·by_cases h2 : n < 0
  ·simp [ym, wg, h, h2]
  ·simp [ym, wg, h, h2]
theorem US (n : Int) : -1 <= M02.wsgn n /\ M02.wsgn n <= 1 := by rcases M02.wsgn_cases n with ⟨_, e⟩ | ⟨_, e⟩ | ⟨_, e⟩ <;> rw [e] <;> decide
theorem Kn {x : Gd} (ha : x.1.natAbs < big) (hb : x.2.natAbs < big) : qB [gD x] = some (.int (YQ x)) := by
 obtain ⟨a, b⟩ := x
 simp only at ha hb
 have m1 := xR (kf ha ha)
 have m2 := xR (kf ha hb)
 have m3 := xR (kf hb hb)
 have wa := US a
 have wb := US b
 have m4 : u5 (.int (M02.wsgn a)) (.int (M02.wsgn b)) = _ := xR (vc (by omega) (by omega))
 have m5 : ∀ z, u5 (.int (M02.wsgn a)) (.int z) = _ := fun z => xR (vc (by omega) (by omega))
 unfold YQ M02.sgn
 by_cases h : 0 <= M02.wsgn a * M02.wsgn b
 ·simp [qB, VP, gD, ix0, ix1, YH, h, m4]
 ·simp [qB, VP, gD, ix0, ix1, YH, h, m4, m5, m1, m2, m3]
def Fit (r : List Gd) : Prop := ∀ x ∈ r, x.1.natAbs < big /\ x.2.natAbs < big
def FO (s : Int) (r : List Gd) : Bool := r.any fun x => decide (YQ x = s)
theorem Vr (neg : Bool) (s : Int) (r : List Gd) : inD neg (.int s) (.lst ((r.map YQ).map D.int)) = some (.bl (xor neg (FO s r))) := by
 have hd : uN ((r.map YQ).map D.int) <= 100 := g1x (qf (k := 0) fun d hd => by
  obtain ⟨x, _, rfl⟩ := g1r.mp hd
  simp [dep]) (by decide)
 show (if _ then _ else _) = _
 rw [if_pos hd]
 congr 3
 unfold FO
 rw [g1d, List.any_map]
 rfl
theorem vS {α β : Type} (f : α -> β) (l : List α) (z : α) : (g0u l.length).map (fun k => f (l.getD k z)) = l.map f := by
 apply List.ext_getElem?
 intro k
 rw [g0w, g0w]
 by_cases h : k < l.length
 ·rw [List.getElem?_range h]
  simp [g0j, h]
 ·rw [g1t (by simpa using h), g1t (by omega)]
  rfl
theorem VZ {r : List Gd} (hr : r.length <= 100) {g : List D -> Option D} (hg : ∀ x ∈ r, g [gD x] = some (.int (YQ x))) : yM (zu 0) ttF (zN g (za (vF 0) zw)) (r.map gD) [.no] = some ((r.map YQ).map D.int) := by
 have c := JF (f := zN g (za (vF 0) zw)) (C := []) (φ := fun k => D.int (YQ (r.getD k (0, 0)))) (r.map gD) 0 .no (fun k d hk => by
  rw [g0w] at hk
  cases e : r[k]? with
  | none => rw [e] at hk; cases hk
  | some x =>
   rw [e] at hk
   cases hk
   have := hg x (g2m e)
   simp only [zR, zm, zA, yB, g0b, g0a, this, g1y, g0j, e, g2y])
 rw [c]
 have := vS (fun x => D.int (YQ x)) r (0, 0)
 simp only [g0k, g1y, g1d] at this ⊢
 rw [this]
 rfl
def NG (r : List Gd) : Bool := FO 1 r && !FO (-1) r
theorem JX {r : List Gd} (hr : r.length <= 100) (hf : Fit r) : xT [wz r] = some (.bl (NG r)) := by
 have c := VZ hr (g := qB) fun x hx => Kn (hf x hx).1 (hf x hx).2
 have i1 := Vr false 1 r
 have i2 := Vr true (-1) r
 have hi : zM (vF 0) [.fr (wz r), .no] = some (r.map gD) := rfl
 have hc := qH (n := 1) (caps := []) (γ := zu 0) (ft := ttF) (f := zN qB (za (vF 0) zw)) hi (szl (by simpa using hr))
 have cs : uv 1 [] [.fr (wz r), .no] = [.no] := rfl
 rw [cs, c] at hc
 simp only [xT, jv, yF, zQ, g0f, g0y, g0d, g0m, Nat.reduceAdd, Nat.reduceSub, g0e, g0v, g0s, zr, yJ, zY, hc, g0z, g0a, g0i, g0g, yx, G4, zt, wL, yB, g0b, g0c, i1, i2, X2, Dm, Bool.false_xor, Bool.true_xor]
 unfold NG
 cases FO 1 r <;> rfl
theorem Gc {c : Gd} (hc : -3 <= c.1 /\ c.1 <= 2 /\ -1 <= c.2 /\ c.2 <= 0) {r s : List Gd} (hr : r.length = s.length) (hl : r.length <= 100) : x9 [wz r, gD c, wz s] = some (wz (YF r (rsc (yD c) s))) := by
 have hz : XR (r.map gD) (s.map gD) = XR (r.map gD) (s.map gD) := rfl
 have lz : (XR (r.map gD) (s.map gD)).length = r.length := by rw [j0]; simp; omega
 have cm := CJ (f := zN v8 (za (vF 0) (za (zN wo (za (zN wU (za (vF 2) (za (vF 1) zw))) zw)) zw))) (C := [.fr (gD c)]) (φ := fun k => gD (yz (r.getD k (0, 0)) (yD (yE c (s.getD k (0, 0)))))) (XR (r.map gD) (s.map gD)) 0 .no .no (fun k d hk => by
  obtain ⟨x, y, e1, e2, rfl⟩ := WM hk
  rw [g0w] at e1 e2
  cases q1 : r[k]? with
  | none => rw [q1] at e1; cases e1
  | some a =>
   cases q2 : s[k]? with
   | none => rw [q2] at e2; cases e2
   | some b =>
    rw [q1] at e1
    rw [q2] at e2
    cases e1
    cases e2
    have m := YL b hc
    have mi := ki (yE c b)
    have pl := Yd a (yD (yE c b))
    refine ⟨_, _, rfl, ?_⟩
    simp only [zR, zm, zA, yB, g0c, g0b, g0a, m, mi, pl, g1y, g0j, q1, q2, g2y])
 have hi : Xf (vF 0) (vF 2) [.fr (wz r), .fr (gD c), .fr (wz s)] = some (XR (r.map gD) (s.map gD)) := by
  simp only [W2, zU, yB, g0b, g0c, g0a, wz, Dk]
 have hcf := qH (n := 2) (caps := [1]) (γ := qQ 2 (yg (zu 0) (yg (zu 1) jF))) (ft := ttF) (f := zN v8 (za (vF 0) (za (zN wo (za (zN wU (za (vF 2) (za (vF 1) zw))) zw)) zw))) hi (by rw [lz]; exact szl hl)
 have cs : uv 2 [1] [.fr (wz r), .fr (gD c), .fr (wz s)] = [.no, .no, .fr (gD c)] := rfl
 rw [cs, cm, lz] at hcf
 simp only [x9, Zd, yF, zQ, g0f, g0y, g0d, g0m, Nat.reduceAdd, Nat.reduceSub, g0e, g0t, yx, zR, zm, zY, hcf, zA, g0a, g0z, Kt, yR, g1y]
 have er : (g0u r.length).map (fun k => gD (yz (r.getD k (0, 0)) (yD (yE c (s.getD k (0, 0)))))) = (YF r (rsc (yD c) s)).map gD := by
  have h1 := vS gD (YF r (rsc (yD c) s)) (0, 0)
  rw [xp (by rw [zG, hr])] at h1
  rw [<- h1]
  apply g1z
  intro k _
  rw [wA (by rw [zG, hr]), xo]
  congr 2
  simp only [yD, yE, Prod.mk.injEq]
  constructor <;> grind
 rw [er]
 rfl
theorem BN (ts : List T3) {n i j : Nat} (hi : i < n) (hj : j < n) : w8 (zf ts i) i (ye n j) = YF (ye n j) (rsc (yD (zf ts i j)) (ye n i)) := by
 have hl : (ye n j).length = (rsc (yD (zf ts i j)) (ye n i)).length := by rw [zG, zg, zg]
 apply vb (by rw [zV, xp hl])
 intro k hk
 rw [zV, zg] at hk
 rw [xZ _ (by rw [zg]; exact hi), jS _ n j hj, wA hl, xo, xn hi, xn hk, xn hk]
 by_cases c : k = i
 ·subst c
  simp only [if_true, jX]
 ·simp only [c, if_false, qA, xJ]
theorem Uz (ts : List T3) {n : Nat} {w : List Nat} (hw : InW n w) {i j : Nat} (hi : i < n) (hj : j < n) : yf (zf ts) (w ++ [i]) (ye n j) = YF (yf (zf ts) w (ye n j)) (rsc (yD (zf ts i j)) (yf (zf ts) w (ye n i))) := by
 rw [y7]
 show yf (zf ts) w (w8 (zf ts i) i (ye n j)) = _
 rw [BN ts hi hj, jW _ _ (by rw [zG, zg, zg]) (by rw [zg]; exact hw), uo _ _ _ (by rw [zg]; exact hw)]
theorem Q2 (ts : List T3) {n : Nat} (w : List Nat) {i : Nat} (hi : i < n) : ixD (qZ (ZL ts n w)) (.int i) = some (wz (yf (zf ts) w (ye n i))) := by
 unfold qZ
 apply CL
 simp [ZL, hi]
theorem UH (n : Nat) {ts : List T3} (hg : xX ts) {w : List Nat} (hn : n <= 100) (hw : InW n w) {i : Nat} (hi : i < n) : zW [zh n ts, qZ (ZL ts n w), .int i] = some (qZ (ZL ts n (w ++ [i]))) := by
 have ei : vW ((ZL ts n w).map wz) = vW ((ZL ts n w).map wz) := rfl
 have le : (vW ((ZL ts n w).map wz)).length = n := by rw [vW]; simp [ZL]
 have cm := CJ (f := zN x9 (za (vF 1) (za (zN y8 (za (vF 2) (za (vF 3) (za (vF 0) zw)))) (za (zc ixD (vF 4) (vF 3)) zw)))) (C := [.fr (zh n ts), .fr (.int i), .fr (qZ (ZL ts n w))]) (φ := fun j => wz (yf (zf ts) (w ++ [i]) (ye n j))) (vW ((ZL ts n w).map wz)) 0 .no .no (fun k d hk => by
  have hk' : k < n := by
   have := (g1a.mp hk).1
   rwa [le] at this
  have e1 : (vW ((ZL ts n w).map wz))[k]? = some (.tup [.int (k : Int), wz (yf (zf ts) w (ye n k))]) := by
   simp [vW, ZL, hk', List.getElem?_zipIdx]
  rw [e1] at hk
  cases hk
  have pv := W6 n hg (i : Int) (k : Int)
  have ia := Q2 ts w hi
  have lv := Gc (c := jL ts i k) (u4 ts i k) (r := yf (zf ts) w (ye n k)) (s := yf (zf ts) w (ye n i)) (by rw [zK, zK, zg, zg]) (by rw [zK, zg]; exact hn)
  have ib := Uz ts hw hi hk'
  unfold zf at ib lv
  rw [<- ib] at lv
  refine ⟨_, _, rfl, ?_⟩
  unfold zf at ia
  simp only [zR, zm, zA, zt, yB, g0c, g0b, g0a, pv, g1y]
  unfold zf
  rw [ia]
  simp only [g0a]
  exact lv)
 have hit : ky (vF 1) [.fr (zh n ts), .fr (qZ (ZL ts n w)), .fr (.int i)] = some (vW ((ZL ts n w).map wz)) := by
  simp only [W3, zU, yB, g0b, g0c, g0a, qZ, x5]
 have hcf := qH (n := 2) (caps := [0, 2, 1]) (γ := qQ 2 (yg (zu 0) (yg (zu 1) jF))) (ft := ttF) (f := zN x9 (za (vF 1) (za (zN y8 (za (vF 2) (za (vF 3) (za (vF 0) zw)))) (za (zc ixD (vF 4) (vF 3)) zw)))) hit (by rw [le]; exact szl hn)
 have cs : uv 2 [0, 2, 1] [.fr (zh n ts), .fr (qZ (ZL ts n w)), .fr (.int i)] = [.no, .no, .fr (zh n ts), .fr (.int i), .fr (qZ (ZL ts n w))] := rfl
 rw [cs, cm, le] at hcf
 simp only [zW, xk, yF, zQ, g0f, g0y, g0d, g0m, Nat.reduceAdd, Nat.reduceSub, g0e, g0t, yx, zY, hcf, g0a, g0z, yR, g1y]
 simp only [qZ, ZL, g1d, Function.comp_def]
theorem BS (ts : List T3) {n : Nat} (hn : n <= 6) {w : List Nat} (hw : w.length <= 100) (i : Nat) : ∀ x ∈ yf (zf ts) w (ye n i), x.1.natAbs <= 2 ^ 700 /\ x.2.natAbs <= 2 ^ 700 := by
 have h := QQ (ts := ts) (HI n i) (by rw [zg]; exact hn) w
 have e : 1 * 32 ^ w.length <= 2 ^ 700 := by
  have h32 : (32 : Nat) = 2 ^ 5 := by decide
  rw [Nat.one_mul, h32, <- Nat.pow_mul]
  exact Nat.pow_le_pow_right (by decide) (by omega)
 intro x hx
 exact ⟨g1x (h x hx).1 e, g1x (h x hx).2 e⟩
theorem BU (ts : List T3) {n : Nat} (hn : n <= 6) {w : List Nat} (hw : w.length <= 100) (i : Nat) : Fit (yf (zf ts) w (ye n i)) := fun x hx => by
 have h := BS ts hn hw i x hx
 exact ⟨QM (k := 701) (g3e h.1 (Nat.pow_lt_pow_right (by decide) (by decide))) (by decide), QM (k := 701) (g3e h.2 (Nat.pow_lt_pow_right (by decide) (by decide))) (by decide)⟩
theorem Mx (r : List Gd) : NG r = GU r := rfl
noncomputable def whB : FS := yb (vd 2 (zN xT (za (zc ixD (vF 3) (vF 4)) zw))) (xh 3 (zN zW (za (vF 0) (za (vF 3) (za (vF 4) zw)))))
theorem Zs (n : Nat) {ts : List T3} (hg : xX ts) (hn : n <= 6) (W : D) : ∀ (w pre : List Nat) (T : List Bool) (s : Slot), InW n pre -> InW n w -> pre.length + w.length <= 100 -> T.length + w.length <= 200 -> ∃ s3 s4, yC (zu 4) whB (w.map fun (i : Nat) => .int (i : Int)) [.fr (zh n ts), .fr W, .ol (T.map D.bl), .fr (qZ (ZL ts n pre)), s] =
  some (.nx [.fr (zh n ts), .fr W, .ol ((T ++ xC ts n pre w).map D.bl), s3, s4])
 | [], pre, T, s, hp, hw, h1, h2 => ⟨_, _, by rw [xC, g0t]; rfl⟩
 | i :: w, pre, T, s, hp, hw, h1, h2 => by
  have hi : i < n := hw i g0l
  rw [g0d] at h1 h2
  obtain ⟨s3, s4, e⟩ := Zs n hg hn W w (pre ++ [i]) (T ++ [GU (yf (zf ts) pre (ye n i))]) (.fr (.int i)) (hp.app (InW.one hi)) (fun k hk => hw k (g0o _ hk)) (by rw [g0h, g1h]; omega) (by rw [g0h, g1h]; omega)
  refine ⟨s3, s4, ?_⟩
  have ia := Q2 ts pre hi
  have av := JX (r := yf (zf ts) pre (ye n i)) (by rw [zK, zg]; omega) (BU ts hn (by omega) i)
  rw [Mx] at av
  have bv := UH n hg (by omega) hp hi
  have z : (T.map D.bl).length < sizeLine := wO (by simp; omega)
  have em : (T ++ [GU (yf (zf ts) pre (ye n i))]).map D.bl = T.map D.bl ++ [D.bl (GU (yf (zf ts) pre (ye n i)))] := by simp
  rw [g1b, g1u] at e
  rw [xC, g0f]
  unfold yC
  rw [em] at e
  simp only [whB, wj, g0a, g0i, g0g, zr, qr, zR, zm, zA, zt, yB, g0c, g0b, ia, av, if_pos z, yJ, bv]
  unfold whB at e
  exact e
theorem YI (n : Nat) {ts : List T3} (hg : xX ts) (hn : n <= 6) {w : List Nat} (hw : InW n w) (hl : w.length <= 100) : zZ [zh n ts, y4 w] = some (.lst ((xC ts n [] w).map D.bl)) := by
 have w0 : D.tup [] = y4 [] := rfl
 have iv := X7 n hg (w := []) (by omega) (fun i hi => by cases hi)
 obtain ⟨s3, s4, e⟩ := Zs n hg hn (y4 w) w [] [] .no (fun i hi => by cases hi) hw (by simpa using hl) (by simp; omega)
 have z0 : 0 <= sizeLine := g2e _
 rw [g0y, g0s] at e
 unfold zZ wt
 unfold whB at e
 simp only [yF, zQ, g0f, g0y, g0d, g0m, Nat.reduceAdd, Nat.reduceSub, g0e, g0v, g0s, zr, j9, jA, zA, g0a, if_pos z0, g0i, g0g, yJ, zR, zm, yB, jz, g0b, g0c, w0, iv, qq, zU]
 have sq : V1 (y4 w) = some (w.map fun (i : Nat) => .int (i : Int)) := rfl
 simp only [sq, g0a]
 rw [e]
 simp only [g0a, YU, Dq, yx, yB, g0b, g0c, g0i, g0g, yR]
theorem Wk (n : Nat) {ts : List T3} (hg : xX ts) (hn : n <= 6) {w : List Nat} (hw : InW n w) (hl : w.length <= 100) : wM [zh n ts, y4 w] = some (.bl ((xC ts n [] w).all id)) := by
 have wv := YI n hg hn hw hl
 simp only [wM, ju, yF, zQ, g0f, g0y, g0d, g0m, Nat.reduceAdd, Nat.reduceSub, g0e, g0t, yx, zR, zm, zA, yB, g0b, g0c, g0a, wv, MY, yR]
theorem WW : ∀ l : List Bool, (l.map fun b => if b = true then (1 : Int) else -1).sum = WX l
 | [] => rfl
 | b :: l => by rw [g0f, List.sum_cons, WW l]; rfl
theorem Us (n : Nat) {ts : List T3} (hg : xX ts) (hn : n <= 6) {w : List Nat} (hw : InW n w) (hl : w.length <= 100) : uL [zh n ts, y4 w] = some (.int (WX (xC ts n [] w))) := by
 have wv := YI n hg hn hw hl
 generalize hT : xC ts n [] w = T at wv
 have hTl : T.length = w.length := by rw [<- hT, wx]
 have cm := JF (f := ifF (blF (vF 0)) (cF (.int 1)) (wG Y4 (cF (.int 1)))) (C := []) (φ := fun k => D.int (if T.getD k false = true then 1 else -1)) (T.map D.bl) 0 .no (fun k d hk => by
  rw [g0w] at hk
  cases e : T[k]? with
  | none => rw [e] at hk; cases hk
  | some b =>
   rw [e] at hk
   cases hk
   cases b <;> simp [g0j, e])
 have hi : zM (zN zZ (za (vF 0) (za (vF 1) zw))) [.fr (zh n ts), .fr (y4 w)] = some (T.map D.bl) := by
  simp only [zU, zR, zm, zA, yB, g0b, g0c, g0a, wv, x5]
 have hcf := qH (n := 1) (caps := []) (γ := zu 0) (ft := ttF) (f := ifF (blF (vF 0)) (cF (.int 1)) (wG Y4 (cF (.int 1)))) hi (by rw [g0k, hTl]; exact szl hl)
 have cs : uv 1 [] [.fr (zh n ts), .fr (y4 w)] = [.no] := rfl
 rw [cs, cm] at hcf
 have er : (g0u (T.map D.bl).length).map (fun k => D.int (if T.getD (0 + k) false = true then 1 else -1)) = (T.map fun b => if b = true then (1 : Int) else -1).map D.int := by
  have := vS (fun b : Bool => D.int (if b = true then 1 else -1)) T false
  simp only [g0k, g1y, g1d]
  rw [this]
  rfl
 rw [er] at hcf
 simp only [uL, YB, yF, zQ, g0f, g0y, g0d, g0m, Nat.reduceAdd, Nat.reduceSub, g0e, g0t, yx, zR, zm, zY, hcf, zA, g0a, g0z, MS, WW, yR]
theorem GO {α : Type} {γ : FG} {ft : FT} {f : FE} {C : List Slot} {ι : α -> D} {nm : α -> List Slot} {q : α -> Bool} {φ : α -> D} {k : Nat}
  (hγ : ∀ a (pre : List Slot), pre.length = k -> γ (ι a) (pre ++ C) = some (nm a ++ C)) (hk : ∀ a, (nm a).length = k) : ∀ (l : List α), (∀ a ∈ l, ft (nm a ++ C) = some (q a)) -> (∀ a ∈ l, q a = true -> f (nm a ++ C) = some (φ a)) -> ∀ pre : List Slot, pre.length = k →
  yM γ ft f (l.map ι) (pre ++ C) = some ((l.filter q).map φ)
 | [], _, _, _, _ => rfl
 | a :: l, ht, hf, pre, hp => by
  have ih := GO hγ hk l (fun b hb => ht b (g0o _ hb)) (fun b hb => hf b (g0o _ hb)) (nm a) (hk a)
  rw [g0f]
  unfold yM
  rw [hγ a pre hp, g0a, ht a g0l, g0a, ih]
  cases c : q a with
  | true => rw [if_pos rfl, hf a g0l c, g3j c]; rfl
  | false => rw [if_neg (by simp), g2r (by simp [c])]
theorem Xt {α : Type} {ft : FT} {f : FE} {C : List Slot} {ι : α -> D} {q : α -> Bool} {φ : α -> D} (l : List α) (s : Slot) (ht : ∀ a ∈ l, ft (.fr (ι a) :: C) = some (q a)) (hf : ∀ a ∈ l, q a = true -> f (.fr (ι a) :: C) = some (φ a)) :
  yM (zu 0) ft f (l.map ι) (s :: C) = some ((l.filter q).map φ) :=
 GO (nm := fun a => [.fr (ι a)]) (k := 1) (fun a pre hp => by
  match pre, hp with
  | [x], _ => rfl) (fun _ => rfl) l ht hf [s] rfl
theorem kN {α : Type} {f : FE} {C : List Slot} {ι : α -> D} {φ : α -> D} (l : List α) (s : Slot) (hf : ∀ a ∈ l, f (.fr (ι a) :: C) = some (φ a)) :
  yM (zu 0) ttF f (l.map ι) (s :: C) = some (l.map φ) := by
 have := Xt (ft := ttF) (q := fun _ => true) l s (fun _ _ => rfl) (fun a ha _ => hf a ha)
 rwa [List.filter_eq_self.mpr (fun _ _ => rfl)] at this
theorem Hs {α : Type} {ft : FT} {f : FE} {C : List Slot} {ι κ : α -> D} {q : α -> Bool} {φ : α -> D} (l : List α) (s s' : Slot) (ht : ∀ a ∈ l, ft (.fr (ι a) :: .fr (κ a) :: C) = some (q a)) (hf : ∀ a ∈ l, q a = true -> f (.fr (ι a) :: .fr (κ a) :: C) = some (φ a)) :
  yM (qQ 2 (yg (zu 0) (yg (zu 1) jF))) ft f (l.map fun a => .tup [ι a, κ a]) (s :: s' :: C) = some ((l.filter q).map φ) :=
 GO (nm := fun a => [.fr (ι a), .fr (κ a)]) (k := 2) (fun a pre hp => by
  match pre, hp with
  | [x, y], _ => rfl) (fun _ => rfl) l ht hf [s, s'] rfl
theorem Ml {α : Type} {ft : FT} {f : FE} {C : List Slot} {ι κ μ : α -> D} {q : α -> Bool} {φ : α -> D} (l : List α) (s s' s'' : Slot) (ht : ∀ a ∈ l, ft (.fr (ι a) :: .fr (κ a) :: .fr (μ a) :: C) = some (q a)) (hf : ∀ a ∈ l, q a = true -> f (.fr (ι a) :: .fr (κ a) :: .fr (μ a) :: C) = some (φ a)) :
  yM (qQ 3 (yg (zu 0) (yg (zu 1) (yg (zu 2) jF)))) ft f (l.map fun a => .tup [ι a, κ a, μ a]) (s :: s' :: s'' :: C) = some ((l.filter q).map φ) :=
 GO (nm := fun a => [.fr (ι a), .fr (κ a), .fr (μ a)]) (k := 3) (fun a pre hp => by
  match pre, hp with
  | [x, y, z], _ => rfl) (fun _ => rfl) l ht hf [s, s', s''] rfl
abbrev lD (l : List Int) : D := .lst (l.map D.int)
theorem QI (n : Nat) (ts : List T3) (x : Int) (l : List Int) (hl : l.length <= 100) : zS [zh n ts, .int x, lD l] = some (lD (nbM (zi ts) x l)) := by
 have e := Xt (ft := XQ (blF (zc neF (vF 0) (vF 1))) (blF (zc neF (zN yS (za (vF 2) (za (vF 1) (za (vF 0) zw)))) (cF (.int 2))))) (f := vF 0) (C := [.fr (.int x), .fr (zh n ts)]) (ι := D.int) (q := fun o => decide (o ≠ x) && decide (zi ts x o ≠ 2)) (φ := D.int) l .no
  (fun o _ => by
   by_cases c : o = x
   ·simp [c]
   ·by_cases c' : zi ts x o = 2 <;> simp [c, c', ZZ]) (fun o _ _ => rfl)
 have hz : (l.map D.int).length <= sizeLine := by rw [g0k]; exact szl hl
 simp only [zS, uA, yF, zQ, yx, zY, xG, zU, yB, g0f, g0y, g0d, g0m, Nat.reduceAdd, Nat.reduceSub, g0e, g0t, g0b, g0c, g0a, x5, if_pos hz, xQ, vx, g0v, g0s, e, g0z, yR]
 rfl
theorem WN (l : List Int) (x : Int) (hl : l.length <= 100) : yK [lD l, .int x] = some (lD (woM l x)) := by
 have e := Xt (ft := blF (zc neF (vF 0) (vF 1))) (f := vF 0) (C := [.fr (.int x)]) (ι := D.int) (q := fun o => decide (o ≠ x)) (φ := D.int) l .no
  (fun o _ => by
   by_cases c : o = x <;> simp [c]) (fun o _ _ => rfl)
 have hz : (l.map D.int).length <= sizeLine := by rw [g0k]; exact szl hl
 simp only [yK, Za, yF, zQ, yx, zY, xG, zU, yB, g0f, g0y, g0d, g0m, Nat.reduceAdd, Nat.reduceSub, g0e, g0t, g0b, g0c, g0a, x5, if_pos hz, xQ, vx, g0v, g0s, e, g0z, yR]
 rfl
theorem Yl (t : Int -> Int -> Int) (x : Int) (left : List Int) : (nbM t x left).length + (left.filter fun o => decide (o ∉ nbM t x left)).length = left.length := by
 have hf : ∀ o ∈ left, (decide (o ∉ nbM t x left)) = !(decide (o ≠ x) && decide (t x o ≠ 2)) := fun o ho => by
  have : o ∈ nbM t x left ↔ (decide (o ≠ x) && decide (t x o ≠ 2)) = true := by
   unfold nbM; rw [g1q]; exact ⟨fun z => z.2, fun z => ⟨ho, z⟩⟩
  cases c : (decide (o ≠ x) && decide (t x o ≠ 2)) with
  | true => rw [c] at this; simpa using this
  | false => rw [c] at this; simpa using this
 rw [List.filter_congr hf, <- g0h]
 exact (List.filter_append_perm _ _).length_eq
theorem CN (l : List Int) (x : Int) : ((l.map D.int).any fun d => eqD d (.int x)) = decide (x ∈ l) := by
 rw [Bool.eq_iff_iff, g2t, decide_eq_true_iff]
 constructor
 ·rintro ⟨d, hd, e⟩
  obtain ⟨y, hy, rfl⟩ := g1r.mp hd
  have : y = x := by simpa [eqD] using e
  exact this ▸ hy
 ·intro h
  exact ⟨.int x, List.mem_map_of_mem h, vU _⟩
theorem Jw (l : List Int) : uN (l.map D.int) <= 100 := qf fun d hd => by
 obtain ⟨x, _, rfl⟩ := g1r.mp hd
 exact g2e _
theorem Q1 (b : Bool) (l : List Int) (x : Int) : inD b (.int x) (lD l) = some (.bl (xor b (decide (x ∈ l)))) := by
 show (if uN (l.map D.int) <= 100 then some (D.bl (xor b ((l.map D.int).any fun d => eqD d (.int x)))) else none) = _
 rw [if_pos (Jw l), CN]
theorem Ge (near left : List Int) (hl : left.length <= 100) (s : Slot) : (if (left.map D.int).length <= sizeLine then yM (zu 0) (blF (zc (inD true) (vF 0) (vF 1))) (vF 0) (left.map D.int) [s, .fr (lD near)] else none) = some ((left.filter fun o => decide (o ∉ near)).map D.int) := by
 rw [if_pos (by rw [g0k]; exact szl hl)]
 exact Xt (C := [.fr (lD near)]) (ι := D.int) (q := fun o => decide (o ∉ near)) (φ := D.int) left s (fun o _ => by
  by_cases c : o ∈ near <;> simp [Q1, c]) (fun o _ _ => rfl)
abbrev pC : FT := blF (zc ltD (vF 4) (zN Y9 (za (vR 2) zw)))
noncomputable abbrev pB : FS := yb (xh 5 (zN zS (za (vF 0) (za (zc ixD (vR 2) (vF 4)) (za (vF 3) zw))))) (yb (jj 2 (vF 5)) (yb (xh 3 (zT (xt 1 [5] (zM (vF 3)) (zu 0) (blF (zc (inD true) (vF 0) (vF 1))) (vF 0)))) (Ms 4 (fun i j => i + j) (cF (.int 1)))))
theorem Qr (n : Nat) (ts : List T3) (x : Int) (part left : List Int) (p : Nat) (s5 : Slot) (y : Int) (h : part[p]? = some y) (hz : part.length + left.length <= 50) :
  pB [.fr (zh n ts), .fr (.int x), .ol (part.map D.int), .fr (lD left), .fr (.int p), s5] = some (.nx [.fr (zh n ts), .fr (.int x), .ol ((part ++ nbM (zi ts) y left).map D.int), .fr (lD (left.filter fun o => decide (o ∉ nbM (zi ts) y left))), .fr (.int ((p + 1 : Nat) : Int)), .fr (lD (nbM (zi ts) y left))]) := by
 have h1 : ixD (.lst (part.map D.int)) (.int (p : Int)) = some (.int y) := js (by rw [g0w, h]; rfl)
 have h2 := QI n ts y left (by omega)
 have h3 := Ge (nbM (zi ts) y left) left (by omega) .no
 have hs := Yl (zi ts) y left
 have h4 : (part.map D.int).length + ((nbM (zi ts) y left).map D.int).length <= sizeLine := by rw [g0k, g0k]; exact szl (by omega)
 simp only [pB, zr, yJ, zR, zm, zA, yB, MR, zt, g0b, g0c, g0a, h1, h2, g0i, g0g, YV, if_pos h4, zY, xG, zU, x5, xQ, g0f, g0y, vx, g0e, g0v, g0s, h3, g0z, Ms, wL, g1f]
 rfl
theorem YX (n : Nat) (ts : List T3) (x : Int) : ∀ (k N : Nat) (part left : List Int) (p : Nat) (s5 : Slot), part.length + left.length <= k + p -> k < N -> part.length + left.length <= 50 →
  ∃ s3 s4 s5', xi pC pB N [.fr (zh n ts), .fr (.int x), .ol (part.map D.int), .fr (lD left), .fr (.int p), s5] = some (.nx [.fr (zh n ts), .fr (.int x), .ol ((YG (zi ts) k part left p).map D.int), s3, s4, s5'])
 | k, 0, part, left, p, s5, h1, h2, h3 => by omega
 | k, N + 1, part, left, p, s5, h1, h2, h3 => by
  have hc : pC [.fr (zh n ts), .fr (.int x), .ol (part.map D.int), .fr (lD left), .fr (.int p), s5] = some (decide ((p : Int) < (part.length : Int))) := by
   simp only [pC, vO, zt, yB, zR, zm, zA, MR, g0b, g0c, g0a, W1, Pi, g0k]
  have stop : part.length <= p -> xi pC pB (N + 1) [.fr (zh n ts), .fr (.int x), .ol (part.map D.int), .fr (lD left), .fr (.int p), s5] = some (.nx [.fr (zh n ts), .fr (.int x), .ol (part.map D.int), .fr (lD left), .fr (.int p), s5]) := fun hp => by
   unfold xi
   rw [hc, decide_eq_false (by omega)]
   rfl
  match k with
  | 0 => exact ⟨_, _, _, stop (by omega)⟩
  | k + 1 =>
   cases e : part[p]? with
   | none =>
    have := List.getElem?_eq_none_iff.mp e
    unfold YG
    rw [e]
    exact ⟨_, _, _, stop this⟩
   | some y =>
    have hp : p < part.length := (g1a.mp e).1
    have hs := Yl (zi ts) y left
    obtain ⟨s3, s4, s5', ih⟩ := YX n ts x k N (part ++ nbM (zi ts) y left) (left.filter fun o => decide (o ∉ nbM (zi ts) y left)) (p + 1) (.fr (lD (nbM (zi ts) y left))) (by rw [g0h]; omega) (by omega) (by rw [g0h]; omega)
    refine ⟨s3, s4, s5', ?_⟩
    unfold YG xi
    rw [hc, decide_eq_true (by omega), e]
    show (pB _).bind _ = _
    rw [Qr n ts x part left p s5 y e h3]
    exact ih
theorem ui (n : Nat) : yZ 0 (n : Int) = (idx n).map D.int := by
 unfold yZ idx
 rw [g1d, show ((n : Int) - 0).toNat = n by omega]
 exact g1z fun k _ => by simp
theorem vT (n : Nat) : (idx n).length = n := by simp [idx]
theorem JN (t : Int -> Int -> Int) : ∀ (k : Nat) (part left : List Int) (p : Nat), (YG t k part left p).length <= part.length + left.length
 | 0, part, left, p => by unfold YG; omega
 | k + 1, part, left, p => by
  unfold YG
  split
  ·omega
  ·rename_i x _
   have := JN t k (part ++ nbM t x left) (left.filter fun o => decide (o ∉ nbM t x left)) (p + 1)
   have hs := Yl t x left
   rw [g0h] at this
   omega
theorem C3 {n : Nat} {x : Int} (hx : x ∈ idx n) : (woM (idx n) x).length + 1 = n := by
 have h := (um n)
 have : (([x] : List Int) ++ woM (idx n) x).Perm (idx n) := by
  refine vP ?_ h fun y => ?_
  ·rw [g1u, g2w]
   refine ⟨fun z => ?_, h.filter _⟩
   unfold woM at z
   simpa using (g1q.mp z).2
  ·rw [g1u, g0n]
   unfold woM
   rw [g1q]
   constructor
   ·rintro (rfl | z)
    ·exact hx
    ·exact z.1
   ·intro z
    by_cases c : y = x
    ·exact .inl c
    ·exact .inr ⟨z, decide_eq_true c⟩
 have := this.length_eq
 rw [g0h, vT, g1h] at this
 omega
theorem Kh {fa : FA} {ρ : Rho} {l : List Int} (h : fa ρ = some [lD l]) (hl : l.length < 64) : Kk fa ρ = some ((uP l).map D.int) := by
 rw [HL, h]
 show (v7 (l.map D.int)).bind _ = _
 rw [uJ, g0a, if_pos hl]
theorem KM (n : Nat) (ts : List T3) (x : Int) (hn : n <= 40) (hx : x ∈ idx n) : wV [zh n ts, .int x] = some (lD (uP (jM (zi ts) n x))) := by
 have hw := C3 hx
 obtain ⟨s3, s4, s5, h⟩ := YX n ts x n 100000 [x] (woM (idx n) x) 0 .no (by simp; omega) (by omega) (by simp; omega)
 have h0 : ixD (zh n ts) (.int 0) = some (.int n) := by unfold zh; exact ix0
 have h1 : (if -(2 ^ 62) <= (n : Int) /\ (n : Int) <= 1000000 then some (yZ 0 (n : Int)) else none) = some ((idx n).map D.int) := by rw [if_pos (by omega), ui]
 have h2 := WN (idx n) x (by rw [vT]; omega)
 have hb := JN (zi ts) n [x] (woM (idx n) x) 0
 have h3 := Kh (fa := za (vR 2) zw) (ρ := [.fr (zh n ts), .fr (.int x), .ol ((YG (zi ts) n [x] (woM (idx n) x) 0).map D.int), s3, s4, s5]) (l := YG (zi ts) n [x] (woM (idx n) x) 0) rfl (by simp at hb; omega)
 have hz : 1 <= sizeLine := szl (by omega)
 simp only [wV, Zc, yF, zQ, g0f, g0y, g0d, g0m, Nat.reduceAdd, Nat.reduceSub, g0e, g0v, g0s, zr, j9, jA, zm, zA, yB, g0b, g0c, g0a, if_pos hz, g0i, g0g, yJ, zR, zY, Qe, zt, wL, h0, h1, h2, g0z]
 have h : xi pC pB 100000 [.fr (zh n ts), .fr (.int x), .ol [.int x], .fr (lD (woM (idx n) x)), .fr (.int 0), .no] = _ := h
 rw [h]
 simp only [g0a, yx, zY, h3, g0z, yR]
 rfl
abbrev cC : FT := blF (zc gtD (zN Y9 (za (vF 4) zw)) (cF (.int 0)))
noncomputable abbrev cB : FS := yb (xh 5 (zN zS (za (vF 0) (za (zc ixD (vR 3) (wG Y4 (cF (.int 1)))) (za (vF 4) zw))))) (yb (ifS (blF (zc neF (zN Y9 (za (vF 5) zw)) (cF (.int 1)))) (yY (cF .non)) nxF) (yb (vd 3 (zc ixD (vF 5) (cF (.int 0)))) (xh 4 (zN yK (za (vF 4) (za (zc ixD (vF 5) (cF (.int 0))) zw))))))
theorem CM (pre : List Int) (x : Int) : ixD (.lst ((pre ++ [x]).map D.int)) (.int (-1)) = some (.int x) := by
 have e : ixD (.lst ((pre ++ [x]).map D.int)) (.int (-1)) = atI ((pre ++ [x]).map D.int) (-1) := rfl
 rw [e]
 unfold atI ixN
 simp
 rw [if_pos (by omega)]
 have e2 : (-1 + ((pre.length : Int) + 1)).toNat = pre.length := by omega
 rw [g0a, e2]
 simp
theorem Hz {l : List Int} {y : Int} (h : y ∈ l) : (woM l y).length < l.length := by
 unfold woM
 have := List.length_filter_lt_length_iff_exists (p := fun o => decide (o ≠ y)) (l := l)
 exact this.mpr ⟨y, h, by simp⟩
def Bo : Option (List Int) -> Option D
 | some o => some (lD o)
 | none => some .non
theorem ZU (n : Nat) (ts : List T3) (ms : D) (f : D) : ∀ (k N : Nat) (pre : List Int) (x : Int) (left : List Int) (s5 : Slot), left.length <= k -> k < N -> pre.length + left.length <= 50 →
  (∃ s4 s5', ∃ o, chG (zi ts) k x left = some o /\ xi cC cB N [.fr (zh n ts), .fr ms, .fr f, .ol ((pre ++ [x]).map D.int), .fr (lD left), s5] = some (.nx [.fr (zh n ts), .fr ms, .fr f, .ol ((pre ++ x :: o).map D.int), s4, s5'])) ∨
  (chG (zi ts) k x left = none /\ xi cC cB N [.fr (zh n ts), .fr ms, .fr f, .ol ((pre ++ [x]).map D.int), .fr (lD left), s5] = some (.rt .non))
 | k, 0, pre, x, left, s5, h1, h2, h3 => by omega
 | k, N + 1, pre, x, left, s5, h1, h2, h3 => by
  have hc : cC [.fr (zh n ts), .fr ms, .fr f, .ol ((pre ++ [x]).map D.int), .fr (lD left), s5] = some (decide ((0 : Int) < (left.length : Int))) := by
   simp only [cC, vO, zt, yB, zR, zm, zA, g0b, g0c, g0a, W1, Pl, g0k, wL]
  by_cases e : left = []
  ·subst e
   refine .inl ⟨.fr (lD []), s5, [], by cases k <;> rfl, ?_⟩
   unfold xi
   rw [hc]
   rfl
  ·have hpos : 0 < left.length := List.length_pos_iff.mpr e
   match k with
   | 0 => omega
   | k + 1 =>
    have hn := QI n ts x left (by omega)
    have hl := CM pre x
    have a1 : xh 5 (zN zS (za (vF 0) (za (zc ixD (vR 3) (wG Y4 (cF (.int 1)))) (za (vF 4) zw)))) [.fr (zh n ts), .fr ms, .fr f, .ol ((pre ++ [x]).map D.int), .fr (lD left), s5] = some (.nx [.fr (zh n ts), .fr ms, .fr f, .ol ((pre ++ [x]).map D.int), .fr (lD left), .fr (lD (nbM (zi ts) x left))]) := by
     simp only [yJ, zR, zm, zA, yB, MR, zt, X2, wL, Dm, g0b, g0c, g0a, hl, hn, g0i, g0g]
    have a2 : ∀ l : List Int, blF (zc neF (zN Y9 (za (vF 5) zw)) (cF (.int 1))) [.fr (zh n ts), .fr ms, .fr f, .ol ((pre ++ [x]).map D.int), .fr (lD left), .fr (lD l)] = some (!decide ((l.length : Int) = 1)) := fun l => by
     simp only [vO, zt, zR, zm, zA, yB, wL, g0b, g0c, g0a, W1, g0k, MU]
    have bad : (nbM (zi ts) x left).length ≠ 1 -> xi cC cB (N + 1) [.fr (zh n ts), .fr ms, .fr f, .ol ((pre ++ [x]).map D.int), .fr (lD left), s5] = some (.rt .non) := fun hb => by
     unfold xi
     rw [hc, decide_eq_true (by omega)]
     show (cB _).bind _ = _
     unfold cB
     rw [zr, a1]
     show (yb _ _ _).bind _ = _
     rw [zr, wy, a2, decide_eq_false (by omega)]
     rfl
    unfold chG
    rw [if_neg e]
    cases h : nbM (zi ts) x left with
    | nil => exact .inr ⟨rfl, bad (by rw [h]; simp)⟩
    | cons y r =>
     cases r with
     | cons z r => exact .inr ⟨rfl, bad (by rw [h]; simp)⟩
     | nil =>
      have hy : y ∈ left := BL (t := zi ts) (x := x) (by rw [h]; exact g0l)
      have hw := WN left y (by omega)
      have hwl := Hz hy
      have hz : ((pre ++ [x]).map D.int).length < sizeLine := by
       rw [g0k, g0h, g1h]; exact wO (by omega)
      have y0 : ixD (lD [y]) (.int 0) = some (.int y) := by simp [ixD, atI, ixN]
      have st : cB [.fr (zh n ts), .fr ms, .fr f, .ol ((pre ++ [x]).map D.int), .fr (lD left), s5] = some (.nx [.fr (zh n ts), .fr ms, .fr f, .ol (((pre ++ [x]) ++ [y]).map D.int), .fr (lD (woM left y)), .fr (lD [y])]) := by
       unfold cB
       rw [zr, a1, h, g0a]
       dsimp only
       rw [zr, wy, a2]
       simp only [g1h, decide_true, Bool.not_true, g0a, g1o, if_false, jK, zr, qr, zt, yB, wL, g0b, g0c, y0, if_pos hz, g0i, g0g, yJ, zR, zm, zA, hw, Int.ofNat_one]
       rw [g1f (l₁ := pre ++ [x])]
       rfl
      have wh : ∀ R, xi cC cB N [.fr (zh n ts), .fr ms, .fr f, .ol (((pre ++ [x]) ++ [y]).map D.int), .fr (lD (woM left y)), .fr (lD [y])] = R -> xi cC cB (N + 1) [.fr (zh n ts), .fr ms, .fr f, .ol ((pre ++ [x]).map D.int), .fr (lD left), s5] = R := fun R hR => by
       unfold xi
       rw [hc, decide_eq_true (by omega)]
       show (cB _).bind _ = _
       rw [st]
       exact hR
      rcases ZU n ts ms f k N (pre ++ [x]) y (woM left y) (.fr (lD [y])) (by omega) (by omega) (by rw [g0h, g1h]; omega) with ⟨s4, s5', o, e1, e2⟩ | ⟨e1, e2⟩
      ·refine .inl ⟨s4, s5', y :: o, by show Option.map (y :: ·) (chG (zi ts) k y (woM left y)) = _; rw [e1]; rfl, wh _ ?_⟩
       rw [e2]
       simp
      ·exact .inr ⟨by show Option.map (y :: ·) (chG (zi ts) k y (woM left y)) = _; rw [e1]; rfl, wh _ e2⟩
theorem JH (n : Nat) (ts : List T3) (ms : List Int) (f : Int) (hm : ms.length <= 40) : yL [zh n ts, lD ms, .int f] = Bo (uc (zi ts) ms f) := by
 have hw := WN ms f (by omega)
 have hl : (woM ms f).length <= ms.length := g2x _ _
 have hz : 1 <= sizeLine := szl (by omega)
 have pre : yL [zh n ts, lD ms, .int f] = Vd ((xi cC cB 100000 [.fr (zh n ts), .fr (lD ms), .fr (.int f), .ol (([] ++ [f]).map D.int), .fr (lD (woM ms f)), .no]).bind fun o => match o with | .nx ρ' => Wm 3 (yY (vF 3)) ρ' | o => some o) := by
  simp only [yL, uB, yF, zQ, g0f, g0y, g0d, g0m, Nat.reduceAdd, Nat.reduceSub, g0e, g0v, g0s, zr, j9, jA, zm, zA, yB, g0b, g0c, g0a, if_pos hz, g0i, g0g, yJ, zR, hw]
  try rfl
 rw [pre]
 unfold uc
 rcases ZU n ts (lD ms) (.int f) ms.length 100000 [] f (woM ms f) .no hl (by omega) (by simp; omega) with ⟨s4, s5, o, e1, e2⟩ | ⟨e1, e2⟩
 ·rw [e1, e2]
  rfl
 ·rw [e1, e2]
  rfl
theorem qc : ∀ (l : List (Option (List Int))), (l.filter (·.isSome)).map (fun o => (Bo o).getD .non) = (l.filterMap id).map lD
 | [] => rfl
 | none :: l => by
  rw [g2r (by simp), List.filterMap_cons_none rfl]
  exact qc l
 | some o :: l => by
  rw [g3j rfl, g0f, qc l]
  rfl
theorem ZS (n : Nat) (ts : List T3) (ms : List Int) (hm : ms.length <= 40) : wB [zh n ts, lD ms] = some (.lst ((xu (zi ts) ms).map lD)) := by
 have e1 := kN (f := zN yL (za (vF 1) (za (vF 2) (za (vF 0) zw)))) (C := [.fr (zh n ts), .fr (lD ms)]) (ι := D.int) (φ := fun f => (Bo (uc (zi ts) ms f)).getD .non) ms .no (fun f _ => by
  have := JH n ts ms f hm
  simp only [zR, zm, zA, yB, g0b, g0c, g0a, this]
  cases uc (zi ts) ms f <;> rfl)
 have e2 := Xt (ft := blF (zc (isD true) (vF 0) (cF .non))) (f := vF 0) (C := []) (ι := fun o => (Bo o).getD .non) (q := fun o => o.isSome) (φ := fun o => (Bo o).getD .non) (ms.map (uc (zi ts) ms)) .no (fun o _ => by
  cases o <;> rfl) (fun o _ _ => rfl)
 rw [qc, g1d, List.filterMap_map] at e2
 have hz : (ms.map D.int).length <= sizeLine := by rw [g0k]; exact szl (by omega)
 have hz2 : (ms.map ((fun o => (Bo o).getD D.non) ∘ uc (zi ts) ms)).length <= sizeLine := by rw [g0k]; exact szl (by omega)
 have e1 : _ = some (ms.map ((fun o => (Bo o).getD D.non) ∘ uc (zi ts) ms)) := e1
 simp only [wB, YE, yF, zQ, g0f, g0y, g0d, g0m, Nat.reduceAdd, Nat.reduceSub, g0e, g0v, g0s, zr, yJ, zY, xG, zU, yB, g0b, g0c, g0a, x5, if_pos hz, xQ, vx, e1, g0z, g0i, g0g, yx, if_pos hz2, e2, yR]
 rfl
theorem UR (t : Int -> Int -> Int) (o : List Int) : (List.zip o (o.drop 1)).map (fun p => t p.1 p.2) = vN t o := by
 unfold vN
 rw [List.zip, List.map_zipWith]
theorem PD (l : List D) : Xq l (some 1) none = l.drop 1 := by
 unfold Xq HT.sIx
 simp
 cases l with
 | nil => rfl
 | cons a l => simp
theorem JU (n : Nat) (ts : List T3) (o : List Int) (ho : o.length <= 40) : yO [zh n ts, lD o] = some (lD (vN (zi ts) o)) := by
 have e1 := Hs (ft := ttF) (f := zN yS (za (vF 2) (za (vF 0) (za (vF 1) zw)))) (C := [.fr (zh n ts)]) (ι := fun p : Int × Int => .int p.1) (κ := fun p : Int × Int => .int p.2) (q := fun _ => true) (φ := fun p => .int (zi ts p.1 p.2)) (List.zip o (o.drop 1)) .no .no (fun _ _ => rfl) (fun p _ _ => by
  simp only [zR, zm, zA, yB, g0b, g0c, g0a, ZZ])
 rw [List.filter_eq_self.mpr (fun _ _ => rfl)] at e1
 have ez : XR (o.map D.int) ((o.map D.int).drop 1) = (List.zip o (o.drop 1)).map fun p : Int × Int => .tup [.int p.1, .int p.2] := by
  unfold XR
  rw [<- List.map_drop, List.zip_map, g1d]
  rfl
 have hz : (XR (o.map D.int) ((o.map D.int).drop 1)).length <= sizeLine := by
  rw [ez, g0k, List.length_zip]
  exact szl (by omega)
 simp only [yO, vY, yF, zQ, g0f, g0y, g0d, g0m, Nat.reduceAdd, Nat.reduceSub, g0e, g0t, g0v, g0s, yx, zY, xG, W2, zU, yB, W0, Dr, MT, wL, g0b, g0c, g0a, x5, PD, if_pos hz, xQ, vx]
 rw [ez, e1]
 simp only [g0z, g0a, yR]
 rw [<- UR]
 show _ = some (D.lst ((List.map _ _).map D.int))
 rw [g1d]
 rfl
def Pv : Nat -> Str
 | 1 => "a" | 2 => "b" | 4 => "d" | 5 => "e" | 6 => "f" | 8 => "h" | 9 => "i" | _ => "-"
def kT (k : Kd) : Str := if k.1 = 0 then "-" else jn Str.empty [Pv k.1, toString (k.2 : Int)]
abbrev kD (k : Kd) : D := .str (kT k)
theorem Np : kT (6, 4) = "f4" := by decide +kernel
theorem Nn : kT (8, 3) = "h3" := by decide +kernel
theorem Nm : kT (8, 4) = "h4" := by decide +kernel
theorem Nl : kT (9, 5) = "i5" := by decide +kernel
theorem Nk : kT (9, 6) = "i6" := by decide +kernel
theorem Nq : kT (5, 6) = "e6" := by decide +kernel
theorem Gm : (g0u 50).all (fun n => decide ((jn Str.empty ["a", toString (n : Int)]).length <= 100) && decide ((jn Str.empty ["b", toString (n : Int)]).length <= 100) && decide ((jn Str.empty ["d", toString (n : Int)]).length <= 100)) = true := by decide +kernel
theorem FC {n : Nat} (h : n < 50) : (jn Str.empty ["a", toString (n : Int)]).length <= 100 /\ (jn Str.empty ["b", toString (n : Int)]).length <= 100 /\ (jn Str.empty ["d", toString (n : Int)]).length <= 100 := by
 have := g2b.mp Gm n (g1s.mpr h)
 rw [g2a, g2a] at this
 exact ⟨of_decide_eq_true this.1.1, of_decide_eq_true this.1.2, of_decide_eq_true this.2⟩
theorem Yo {c : Str} {f : FE} {ρ : Rho} {n : Nat} (h : f ρ = some (.int n)) (hn : n < 50) (hl : (jn Str.empty [c, toString (n : Int)]).length <= 100) : jQ (UM c (J6 f J5)) ρ = some (.str (jn Str.empty [c, toString (n : Int)])) := by
 have hg : ((n : Int).natAbs).log2 < 1920 := g3e (Nat.log2_le_self _) (by omega)
 unfold jQ UM J6 J5
 rw [h]
 show ((((if ((n : Int).natAbs).log2 < 1920 then some (toString (n : Int)) else none : Option Str).bind fun z => some [z]).bind (fun zs => some (c :: zs))).bind _) = _
 rw [if_pos hg]
 show (if (jn Str.empty [c, toString (n : Int)]).length <= sizeLine then _ else none) = _
 rw [if_pos (szl hl)]
theorem Vy : ∀ a b : List Int, ZN (a.map D.int) (b.map D.int) = decide (a = b)
 | [], [] => rfl
 | [], _ :: _ => rfl
 | _ :: _, [] => rfl
 | x :: a, y :: b => by
  rw [g0f, g0f]
  unfold ZN
  rw [Vy a b]
  by_cases c : x = y <;> by_cases c' : a = b <;> simp [eqD, c, c']
theorem GJ (l : List Int) : dep (lD l) <= 100 := by
 have := Me l
 show dep (.lst (l.map D.int)) <= 100
 omega
theorem Vz (a b : List Int) : eqF (lD a) (lD b) = some (.bl (decide (a = b))) := by
 unfold eqF
 rw [if_pos (GJ a)]
 show some (D.bl (ZN (a.map D.int) (b.map D.int))) = _
 rw [Vy]
theorem Ym {f : FE} {ρ : Rho} {k : Int} (h : f ρ = some (.int k)) (h1 : -100 <= k) (h2 : k <= 100) : Hi (zT (Zm (za (cF (.int 3)) zw))) f ρ = some ((g0e k.toNat (3 : Int)).map D.int) := by
 have hz : 1 <= sizeLine := szl (by omega)
 simp only [Do, zY, jA, zm, wL, zA, g0a, g0d, g0m, g1y, if_pos hz, g0z, h]
 rw [if_pos (by omega), List.map_replicate]
 congr 1
 generalize k.toNat = m
 induction m with
 | zero => rfl
 | succ m ih => rw [g1p, g2i, ih]; rfl
theorem BY (l : List Int) (hl : l.length <= 40) : yn [lD l] = some (kD (CY l)) := by
 obtain ⟨ja, jb, _⟩ := FC (n := l.length + 1) (by omega)
 have hz : 1 <= sizeLine := szl (by omega)
 have m1 := Ym (f := zc jT (vF 1) (cF (.int 1))) (ρ := [.fr (lD l), .fr (.int ((l.length : Int) + 1))]) (k := (l.length : Int)) (by simp) (by omega) (by omega)
 have m2 := Ym (f := zc jT (vF 1) (cF (.int 2))) (ρ := [.fr (lD l), .fr (.int ((l.length : Int) + 1))]) (k := (l.length : Int) - 1) (by simp; omega) (by omega) (by omega)
 have t1 : ((l.length : Int)).toNat = l.length := by omega
 have t2 : ((l.length : Int) - 1).toNat = l.length - 1 := by omega
 rw [t1] at m1
 rw [t2] at m2
 have j1 := Yo (c := "a") (f := vF 1) (ρ := [.fr (lD l), .fr (.int ((l.length : Int) + 1))]) (n := l.length + 1) rfl (by omega) ja
 have j2 := Yo (c := "b") (f := vF 1) (ρ := [.fr (lD l), .fr (.int ((l.length : Int) + 1))]) (n := l.length + 1) rfl (by omega) jb
 have q1 := Vz l (g0e l.length 3)
 have q2 := Vz l (g0e (l.length - 1) 3 ++ [4])
 have ad : ue (.lst ((g0e (l.length - 1) (3 : Int)).map D.int)) (.lst [.int 4]) = some (lD (g0e (l.length - 1) 3 ++ [4])) := by
  unfold ue
  dsimp only
  rw [if_pos (by simp; exact szl (by omega))]
  simp
 have gt : C0 [([3, 4, 3], (.str "f4")), ([3, 5], (.str "h3")), ([3, 3, 5], (.str "h4")), ([5], (.str "i5")), ([6], (.str "i6"))] (.tup (l.map D.int)) (.str "-") = some ((g2j l [([3, 4, 3], (D.str "f4")), ([3, 5], (.str "h3")), ([3, 3, 5], (.str "h4")), ([5], (.str "i5")), ([6], (.str "i6"))]).getD (.str "-")) := by
  unfold C0
  dsimp only
  rw [uJ]
  rfl
 have start : yn [lD l] = Vd (yb (ifS (blF (zc eqF (vF 0) (zT (Hi (zT (Zm (za (cF (.int 3)) zw))) (zc jT (vF 1) (cF (.int 1))))))) (yY (jQ (UM "a" (J6 (vF 1) J5)))) nxF) (yb (ifS (blF (zc eqF (vF 0) (zc ue (zT (Hi (zT (Zm (za (cF (.int 3)) zw))) (zc jT (vF 1) (cF (.int 2))))) (zT (Zm (za (cF (.int 4)) zw)))))) (yY (jQ (UM "b" (J6 (vF 1) J5)))) nxF) (yY (zc (C0 [([3, 4, 3], (.str "f4")), ([3, 5], (.str "h3")), ([3, 3, 5], (.str "h4")), ([5], (.str "i5")), ([6], (.str "i6"))]) (zN ql (za (vF 0) zw)) (cF (.str "-"))))) [.fr (lD l), .fr (.int ((l.length : Int) + 1))]) := by
  simp [yn, w5, g0e]
 rw [start, zr, wy, vO, zt, zY, m1]
 simp only [yB, g0b, g0a, g0z, q1]
 unfold CY
 by_cases c1 : l = g0e l.length 3
 ·rw [if_pos c1, if_pos (decide_eq_true c1), yx, j1]
  rfl
 ·rw [if_neg c1, if_neg (by simpa using c1)]
  simp only [jK, g0a]
  rw [zr, wy, vO, zt, zt, zY, m2]
  simp only [yB, g0b, g0a, g0z, zY, jA, zm, wL, zA, g0d, g0m, g1y, if_pos hz, ad, q2]
  by_cases c2 : l = g0e (l.length - 1) 3 ++ [4]
  ·rw [if_pos c2, if_pos (decide_eq_true c2), yx, j2]
   rfl
  ·rw [if_neg c2, if_neg (by simpa using c2)]
   simp only [jK, g0a, yx, zt, zR, zm, zA, yB, g0b, Kt, wL, gt, yR]
   by_cases d1 : l = [3, 4, 3]
   ·subst d1; rw [if_pos rfl]; show _ = some (D.str (kT (6, 4))); rw [Np]; rfl
   ·rw [if_neg d1]
    by_cases d2 : l = [3, 5]
    ·subst d2; rw [if_pos rfl]; show _ = some (D.str (kT (8, 3))); rw [Nn]; rfl
    ·rw [if_neg d2]
     by_cases d3 : l = [3, 3, 5]
     ·subst d3; rw [if_pos rfl]; show _ = some (D.str (kT (8, 4))); rw [Nm]; rfl
     ·rw [if_neg d3]
      by_cases d4 : l = [5]
      ·subst d4; rw [if_pos rfl]; show _ = some (D.str (kT (9, 5))); rw [Nl]; rfl
      ·rw [if_neg d4]
       by_cases d5 : l = [6]
       ·subst d5; rw [if_pos rfl]; show _ = some (D.str (kT (9, 6))); rw [Nk]; rfl
       ·rw [if_neg d5]
        have e : g2j l [([3, 4, 3], (D.str "f4")), ([3, 5], (.str "h3")), ([3, 3, 5], (.str "h4")), ([5], (.str "i5")), ([6], (.str "i6"))] = none := by
         simp [g2j, beq_false_of_ne, d1, d2, d3, d4, d5]
        rw [e]
        rfl
theorem NF (o : List Int) (i : Nat) (y : Int) (h : o[i]? = some y) : ixD (lD o) (.int (i : Int)) = some (.int y) := js (by rw [g0w, h]; rfl)
theorem Gk (o : List Int) (y : Int) (hl : o.length <= 40) : zC [lD o, .int y] = some (kD (Wi o y)) := by
 obtain ⟨_, _, jd⟩ := FC (n := o.length + 1) (by omega)
 have j1 := Yo (c := "d") (f := vF 2) (ρ := [.fr (lD o), .fr (.int y), .fr (.int ((o.length : Int) + 1))]) (n := o.length + 1) rfl (by omega) jd
 have start : zC [lD o, .int y] = Vd (yb (ifS (XQ (blF (zc geD (vF 2) (cF (.int 4)))) (blF (zc eqF (zc ixD (vF 0) (cF (.int 1))) (vF 1)))) (yY (jQ (UM "d" (J6 (vF 2) J5)))) nxF) (yb (ifS (XQ (blF (zc eqF (vF 2) (cF (.int 6)))) (blF (zc eqF (zc ixD (vF 0) (cF (.int 2))) (vF 1)))) (yY (cF (.str "e6"))) nxF) (yY (cF (.str "-")))) [.fr (lD o), .fr (.int y), .fr (.int ((o.length : Int) + 1))]) := by
  simp [zC, yW, g0e]
 have a1 : XQ (blF (zc geD (vF 2) (cF (.int 4)))) (blF (zc eqF (zc ixD (vF 0) (cF (.int 1))) (vF 1))) [.fr (lD o), .fr (.int y), .fr (.int ((o.length : Int) + 1))] = some (decide (4 <= o.length + 1 /\ o[1]? = some y)) := by
  by_cases c : 4 <= o.length + 1
  ·have hx : o[1]? = some o[1] := g1i (by omega)
   have c' : (4 : Int) <= (o.length : Int) + 1 := by omega
   have := NF o 1 o[1] hx
   have this : ixD (lD o) (.int 1) = some (.int o[1]) := this
   simp [c, c', this, hx]
  ·have c' : ¬ (4 : Int) <= (o.length : Int) + 1 := by omega
   simp [c, c']
 have a2 : XQ (blF (zc eqF (vF 2) (cF (.int 6)))) (blF (zc eqF (zc ixD (vF 0) (cF (.int 2))) (vF 1))) [.fr (lD o), .fr (.int y), .fr (.int ((o.length : Int) + 1))] = some (decide (o.length + 1 = 6 /\ o[2]? = some y)) := by
  by_cases c : o.length + 1 = 6
  ·have hx : o[2]? = some o[2] := g1i (by omega)
   have c' : (o.length : Int) + 1 = 6 := by omega
   have := NF o 2 o[2] hx
   have this : ixD (lD o) (.int 2) = some (.int o[2]) := this
   simp [c, c', this, hx]
  ·have c' : ¬ (o.length : Int) + 1 = 6 := by omega
   simp [c, c']
 rw [start, zr, wy, a1, g0a]
 unfold Wi
 by_cases c1 : 4 <= o.length + 1 /\ o[1]? = some y
 ·rw [if_pos c1, if_pos (decide_eq_true c1), yx, j1]
  rfl
 ·rw [if_neg c1, if_neg (by simpa using c1), jK, g0a]
  dsimp only
  rw [zr, wy, a2, g0a]
  by_cases c2 : o.length + 1 = 6 /\ o[2]? = some y
  ·rw [if_pos c2, if_pos (decide_eq_true c2)]
   show _ = some (D.str (kT (5, 6)))
   rw [Nq]
   rfl
  ·rw [if_neg c2, if_neg (by simpa using c2)]
   rfl
theorem JJ {t : Int -> Int -> Int} : ∀ {n : Nat} {x : Int} {l o : List Int}, chG t n x l = some o -> o.length <= n
 | 0, x, l, o, h => by cases h; exact g0r _
 | n + 1, x, l, o, h => by
  unfold chG at h
  split at h
  ·cases h; exact g2e _
  ·split at h
   ·obtain ⟨o', e', rfl⟩ := g1w.mp h
    have := JJ e'
    rw [g0d]
    omega
   ·cases h
theorem ZT {t : Int -> Int -> Int} {ms o : List Int} (h : o ∈ xu t ms) : o.length <= ms.length + 1 := by
 obtain ⟨f, _, e⟩ := g3d.mp h
 obtain ⟨o', e', rfl⟩ := g1w.mp e
 have := JJ e'
 rw [g0d]
 omega
theorem vX (t : Int -> Int -> Int) (ms : List Int) : (xu t ms).length <= ms.length := List.length_filterMap_le _ _
theorem JW (t : Int -> Int -> Int) (o : List Int) : (vN t o).length <= o.length := by
 unfold vN
 rw [List.length_zipWith]
 omega
theorem BX (n : Nat) (ts : List T3) (ms : List Int) (hm : ms.length <= 9) : yu [zh n ts, lD ms] = some (.lst ((Gj (zi ts) ms).map kD)) := by
 have e0 := ZS n ts ms (by omega)
 have e1 := kN (f := zN yn (za (zN yO (za (vF 1) (za (vF 0) zw))) zw)) (C := [.fr (zh n ts)]) (ι := lD) (φ := fun o => kD (CY (vN (zi ts) o))) (xu (zi ts) ms) .no (fun o ho => by
  have h1 := ZT ho
  have h2 := JW (zi ts) o
  simp only [zR, zm, zA, yB, g0b, g0c, g0a, JU n ts o (by omega), BY (vN (zi ts) o) (by omega)])
 have hz : ((xu (zi ts) ms).map lD).length <= sizeLine := by
  have := vX (zi ts) ms
  rw [g0k]; exact szl (by omega)
 simp only [yu, xY, yF, zQ, g0f, g0y, g0d, g0m, Nat.reduceAdd, Nat.reduceSub, g0e, g0t, g0v, g0s, yx, zY, xG, zU, zR, zm, zA, yB, g0b, g0c, g0a, e0, x5, if_pos hz, xQ, vx, e1, g0z, yR]
 unfold Gj
 rw [g1d]
 rfl
theorem JM {α : Type} (l : List α) (p : α -> Bool) : wY (l.map fun a => D.bl (p a)) = some (l.map p) := by
 induction l with
 | nil => rfl
 | cons a l ih =>
  rw [g0f, g0f]
  unfold wY
  rw [ih]
  rfl
theorem HD (n : Nat) (ts : List T3) (ms : List Int) (ht : ts.length <= 90) : yq [zh n ts, lD ms] = some (.bl (XY ts ms)) := by
 have h0 : ixD (zh n ts) (.int 1) = some (.lst (ts.map tD)) := by unfold zh; exact ix1
 have e1 := Ml (ft := blF (zc (inD false) (vF 0) (vF 3))) (f := zc eqF (vF 2) (cF (.int 3))) (C := [.fr (lD ms)]) (ι := fun u : T3 => .int u.1) (κ := fun u : T3 => .int u.2.1) (μ := fun u : T3 => .int u.2.2) (q := fun u => decide (u.1 ∈ ms)) (φ := fun u => .bl (decide (u.2.2 = 3))) ts .no .no .no (fun u _ => by
  by_cases c : u.1 ∈ ms <;> simp [Q1, c]) (fun u _ _ => by simp)
 have hz : (ts.map tD).length <= sizeLine := by rw [g0k]; exact szl (by omega)
 have e1 : yM (qQ 3 (yg (zu 0) (yg (zu 1) (yg (zu 2) jF)))) (blF (zc (inD false) (vF 0) (vF 3))) (zc eqF (vF 2) (cF (.int 3))) (ts.map tD) [.no, .no, .no, .fr (lD ms)] = _ := e1
 simp only [yq, ve, yF, zQ, g0f, g0y, g0d, g0m, Nat.reduceAdd, Nat.reduceSub, g0e, g0t, g0v, g0s, yx, zY, xG, zU, zR, zm, zA, zt, wL, yB, g0b, g0c, g0a, h0, x5, if_pos hz, xQ, vx, e1, g0z]
 show Vd (((wY (List.map (fun u : T3 => D.bl (decide (u.2.2 = 3))) (List.filter (fun u : T3 => decide (u.1 ∈ ms)) ts))).map fun bs => D.bl (bs.all id)).bind fun d => some (Out.rt d)) = _
 rw [JM]
 show some (D.bl _) = _
 unfold XY
 rw [List.all_map]
 rfl
noncomputable abbrev eB : FS := yb (xh 4 (zN zS (za (vF 0) (za (vF 3) (za (vF 1) zw))))) (ifS (blF (zc eqF (zN Y9 (za (vF 4) zw)) (cF (.int 1)))) (yb (xh 5 (zN wB (za (vF 0) (za (zN yK (za (vF 1) (za (vF 3) zw))) zw)))) (jj 2 (zT (xt 1 [4] (zM (vF 5)) (zu 0) ttF (zN zC (za (vF 0) (za (zc ixD (vF 1) (cF (.int 0))) zw))))))) nxF)
def keM (t : Int -> Int -> Int) (ms : List Int) (e : Int) : List Kd := match nbM t e ms with
 | [y] => (xu t (woM ms e)).map fun o => Wi o y
 | _ => []
theorem BW (n : Nat) (ts : List T3) (ms : List Int) (hm : ms.length <= 9) (told : List Kd) (ht : told.length <= 90) (e : Int) (s4 s5 : Slot) :
  ∃ s4' s5', eB [.fr (zh n ts), .fr (lD ms), .ol (told.map kD), .fr (.int e), s4, s5] = some (.nx [.fr (zh n ts), .fr (lD ms), .ol ((told ++ keM (zi ts) ms e).map kD), .fr (.int e), s4', s5']) /\ (keM (zi ts) ms e).length <= 9 := by
 have h1 := QI n ts e ms (by omega)
 have hw := WN ms e (by omega)
 have hwl : (woM ms e).length <= ms.length := g2x _ _
 have h2 := ZS n ts (woM ms e) (by omega)
 have hcm := vX (zi ts) (woM ms e)
 have a1 : xh 4 (zN zS (za (vF 0) (za (vF 3) (za (vF 1) zw)))) [.fr (zh n ts), .fr (lD ms), .ol (told.map kD), .fr (.int e), s4, s5] = some (.nx [.fr (zh n ts), .fr (lD ms), .ol (told.map kD), .fr (.int e), .fr (lD (nbM (zi ts) e ms)), s5]) := by
  simp only [yJ, zR, zm, zA, yB, g0b, g0c, g0a, h1, g0i, g0g]
 have a2 : ∀ l : List Int, blF (zc eqF (zN Y9 (za (vF 4) zw)) (cF (.int 1))) [.fr (zh n ts), .fr (lD ms), .ol (told.map kD), .fr (.int e), .fr (lD l), s5] = some (decide ((l.length : Int) = 1)) := fun l => by
  simp only [vO, zt, zR, zm, zA, yB, wL, g0b, g0c, g0a, W1, g0k, Qb]
 have bad : (nbM (zi ts) e ms).length ≠ 1 -> eB [.fr (zh n ts), .fr (lD ms), .ol (told.map kD), .fr (.int e), s4, s5] = some (.nx [.fr (zh n ts), .fr (lD ms), .ol ((told ++ []).map kD), .fr (.int e), .fr (lD (nbM (zi ts) e ms)), s5]) := fun hb => by
  unfold eB
  rw [zr, a1, g0a]
  dsimp only
  rw [wy, a2, decide_eq_false (by omega), g0t]
  rfl
 unfold keM
 cases h : nbM (zi ts) e ms with
 | nil => exact ⟨_, _, bad (by rw [h]; simp), by simp⟩
 | cons y r =>
  cases r with
  | cons z r => exact ⟨_, _, bad (by rw [h]; simp), by simp⟩
  | nil =>
   have y0 : ixD (lD [y]) (.int 0) = some (.int y) := by simp [ixD, atI, ixN]
   have e1 := kN (f := zN zC (za (vF 0) (za (zc ixD (vF 1) (cF (.int 0))) zw))) (C := [.fr (lD [y])]) (ι := lD) (φ := fun o => kD (Wi o y)) (xu (zi ts) (woM ms e)) .no (fun o ho => by
    have h1 := ZT ho
    simp only [zR, zm, zA, yB, zt, wL, g0b, g0c, g0a, y0, Gk o y (by omega)])
   have hz : ((xu (zi ts) (woM ms e)).map lD).length <= sizeLine := by rw [g0k]; exact szl (by omega)
   have hz2 : (told.map kD).length + ((xu (zi ts) (woM ms e)).map fun o => kD (Wi o y)).length <= sizeLine := by rw [g0k, g0k]; exact szl (by omega)
   refine ⟨.fr (lD [y]), .fr (.lst ((xu (zi ts) (woM ms e)).map lD)), ?_, by simp; omega⟩
   unfold eB
   rw [zr, a1, h, g0a]
   dsimp only
   rw [wy, a2]
   simp only [g1h, Int.ofNat_one, decide_true, g0a, if_true, zr, yJ, zR, zm, zA, yB, g0b, g0c, hw, h2, g0i, g0g, YV, zY, xG, zU, x5, if_pos hz, xQ, vx, g0f, g0y, g0e, g0v, g0s, e1, g0z, if_pos hz2]
   rw [g1f, g1d]
   rfl
theorem QV (n : Nat) (ts : List T3) (ms : List Int) (hm : ms.length <= 9) : ∀ (es : List Int) (told : List Kd) (s3 s4 s5 : Slot), told.length + 9 * es.length <= 90 →
  ∃ s3' s4' s5', yC (zu 3) eB (es.map D.int) [.fr (zh n ts), .fr (lD ms), .ol (told.map kD), s3, s4, s5] = some (.nx [.fr (zh n ts), .fr (lD ms), .ol ((told ++ es.flatMap (keM (zi ts) ms)).map kD), s3', s4', s5'])
 | [], told, s3, s4, s5, h => ⟨_, _, _, by rw [List.flatMap_nil, g0t]; rfl⟩
 | e :: es, told, s3, s4, s5, h => by
  rw [g0d] at h
  obtain ⟨s4', s5', h1, h2⟩ := BW n ts ms hm told (by omega) e s4 s5
  obtain ⟨t3, t4, t5, ih⟩ := QV n ts ms hm es (told ++ keM (zi ts) ms e) (.fr (.int e)) s4' s5' (by rw [g0h]; omega)
  refine ⟨t3, t4, t5, ?_⟩
  rw [g0f]
  unfold yC
  simp only [wj, g0a, g0i, g0g]
  rw [h1]
  show yC _ _ _ _ = _
  rw [ih, List.flatMap_cons, g1b]
theorem BV (n : Nat) (ts : List T3) (ms : List Int) (hm : ms.length <= 9) (ht : ts.length <= 90) : yv [zh n ts, lD ms] = some (.lst ((if XY ts ms = true then Hm (zi ts) ms else []).map kD)) := by
 have h0 := HD n ts ms ht
 obtain ⟨s3, s4, s5, h1⟩ := QV n ts ms hm ms [] .no .no .no (by simp; omega)
 have hz : 0 <= sizeLine := g2e _
 have start : yv [zh n ts, lD ms] = Vd (yb (ifS (BI (blF (zN yq (za (vF 0) (za (vF 1) zw))))) (Wm 2 (yY (vF 2))) nxF) (yb (Wn (zM (vF 1)) (zu 3) eB) (Wm 2 (yY (vF 2)))) [.fr (zh n ts), .fr (lD ms), .ol [], .no, .no, .no]) := by
  simp only [yv, w4, yF, zQ, g0f, g0y, g0d, g0m, Nat.reduceAdd, Nat.reduceSub, g0e, g0v, g0s]
  rw [zr (F := VL 2 _), j9]
  simp only [jA, zA, g0a, g0m, if_pos hz, g0i, g0g]
 have a1 : BI (blF (zN yq (za (vF 0) (za (vF 1) zw)))) [.fr (zh n ts), .fr (lD ms), .ol [], .no, .no, .no] = some (!XY ts ms) := by
  simp only [G3, vO, zR, zm, zA, yB, g0b, g0c, g0a, h0]
 rw [start, zr, wy, a1, g0a]
 cases c : XY ts ms with
 | false => rfl
 | true =>
  rw [if_neg (by simp), if_pos rfl, jK, g0a]
  dsimp only
  rw [zr, qq]
  simp only [zU, yB, g0b, g0c, g0a, x5]
  have h1 : yC (zu 3) eB (ms.map D.int) [.fr (zh n ts), .fr (lD ms), .ol [], .no, .no, .no] = _ := h1
  rw [h1]
  rfl
abbrev kB : FS := ifS (blF (zc neF (vF 2) (cF (.str "-")))) (yY (vF 2)) nxF
theorem Fk (a b : Str) : neF (.str a) (.str b) = some (.bl (!decide (a = b))) := by
 unfold neF
 rw [if_pos (show dep (.str a) <= 100 from g2e _)]
 by_cases c : a = b <;> simp [eqD, c]
theorem Xd {c : Kd} (hc : c = (0, 0) \/ kT c ≠ "-") (a b : Slot) : ∀ (L : List Kd) (s : Slot), (∀ k ∈ L, k = (0, 0) \/ k = c) →
  ((c = (0, 0) \/ c ∉ L) /\ ∃ s', yC (zu 2) kB (L.map kD) [a, b, s] = some (.nx [a, b, s'])) \/ yC (zu 2) kB (L.map kD) [a, b, s] = some (.rt (kD c))
 | [], s, _ => .inl ⟨.inr (by simp), s, rfl⟩
 | k :: L, s, h => by
  rw [g0f]
  by_cases z : k = (0, 0)
  ·subst z
   have st : yC (zu 2) kB (kD (0, 0) :: L.map kD) [a, b, s] = yC (zu 2) kB (L.map kD) [a, b, .fr (kD (0, 0))] := by
    rw [yC]
    rfl
   rw [st]
   rcases Xd hc a b L (.fr (kD (0, 0))) (fun k hk => h k (g0o _ hk)) with ⟨h1, h2⟩ | h1
   ·refine .inl ⟨?_, h2⟩
    by_cases c0 : c = (0, 0)
    ·exact .inl c0
    ·exact .inr fun m => (g0n.mp m).elim c0 (h1.resolve_left c0)
   ·exact .inr h1
  ·have e : k = c := (h k g0l).resolve_left z
   subst e
   have hk := hc.resolve_left z
   refine .inr ?_
   unfold yC
   simp [Fk, hk]
theorem Vm (n : Nat) (ts : List T3) (ms : List Int) (c : Kd) (hm : ms.length <= 9) (ht : ts.length <= 90) (h1 : ∀ k ∈ jf (zi ts) (XY ts ms) ms, k = (0, 0) \/ k = c) (h2 : c = (0, 0) \/ c ∈ jf (zi ts) (XY ts ms) ms) (hc : c = (0, 0) \/ kT c ≠ "-")
  (hz : (jf (zi ts) (XY ts ms) ms).length <= 100) : y9 [zh n ts, lD ms] = some (kD c) := by
 have e1 := BX n ts ms hm
 have e2 := BV n ts ms hm ht
 have ad : ue (.lst ((Gj (zi ts) ms).map kD)) (.lst ((if XY ts ms = true then Hm (zi ts) ms else []).map kD)) = some (.lst ((jf (zi ts) (XY ts ms) ms).map kD)) := by
  unfold ue jf
  dsimp only
  unfold jf at hz
  rw [g0h] at hz
  rw [if_pos (by rw [g0k, g0k]; exact szl hz), g1f]
 have start : y9 [zh n ts, lD ms] = Vd ((yC (zu 2) kB ((jf (zi ts) (XY ts ms) ms).map kD) [.fr (zh n ts), .fr (lD ms), .no]).bind fun o => match o with | .nx ρ' => yY (cF (.str "-")) ρ' | o => some o) := by
  simp only [y9, Zg, yF, zQ, g0f, g0y, g0d, g0m, Nat.reduceAdd, Nat.reduceSub, g0e, g0v, g0s, zr, qq, zU, zt, zR, zm, zA, yB, g0b, g0c, g0a, e1, e2, ad, x5]
  try rfl
 rw [start]
 rcases Xd hc (.fr (zh n ts)) (.fr (lD ms)) _ .no h1 with ⟨h3, s', h4⟩ | h3
 ·rw [h4]
  have : c = (0, 0) := by
   rcases h3 with z | z
   ·exact z
   ·exact h2.resolve_right z
  subst this
  rfl
 ·rw [h3]
  rfl
theorem Hv (t : Int -> Int -> Int) : ∀ (k : Nat) (part left : List Int) (p : Nat), part ≠ [] -> YG t k part left p ≠ []
 | 0, part, left, p, h => h
 | k + 1, part, left, p, h => by
  unfold YG
  split
  ·exact h
  ·exact Hv t k _ _ _ (by simp [h])
theorem Kl {l : List Int} (h : l ≠ []) : uP l ≠ [] := fun z => h (by
 have := (vh l).length_eq
 rw [z] at this
 exact g3h.mp this.symm)
abbrev PM (n : Nat) (ts : List T3) (x : Int) : List Int := uP (jM (zi ts) n x)
theorem NI (n : Nat) (ts : List T3) (x : Int) : PM n ts x ≠ [] := Kl (Hv _ _ _ _ _ (by simp))
theorem GC (n : Nat) (f : Int -> D) : vW ((idx n).map f) = (idx n).map fun x => .tup [.int x, f x] := by
 unfold vW
 apply g2z
 ·simp
 ·intro i h1 h2
  simp [idx]
theorem Qq (n : Nat) (ts : List T3) (hn : n <= 40) : jh [zh n ts] = some (.lst (((idx n).filter fun x => decide ((PM n ts x).headD 0 = x)).map fun x => lD (PM n ts x))) := by
 have h0 : ixD (zh n ts) (.int 0) = some (.int n) := by unfold zh; exact ix0
 have hr : uS [.int (n : Int)] = some ((idx n).map D.int) := by rw [vy (by omega) (by omega), ui]
 have e1 := kN (f := zN wV (za (vF 1) (za (vF 0) zw))) (C := [.fr (zh n ts)]) (ι := D.int) (φ := fun x => lD (PM n ts x)) (idx n) .no (fun x hx => by
  simp only [zR, zm, zA, yB, g0b, g0c, g0a, KM n ts x hn hx])
 have e2 := Hs (ft := blF (zc eqF (zc ixD (vF 1) (cF (.int 0))) (vF 0))) (f := vF 1) (C := []) (ι := D.int) (κ := fun x => lD (PM n ts x)) (q := fun x => decide ((PM n ts x).headD 0 = x)) (φ := fun x => lD (PM n ts x)) (idx n) .no .no (fun x _ => by
  have hne := NI n ts x
  cases e : PM n ts x with
  | nil => exact absurd e hne
  | cons y r =>
   have y0 : ixD (lD (y :: r)) (.int 0) = some (.int y) := by simp [ixD, atI, ixN]
   simp only [vO, zt, yB, wL, g0b, g0c, g0a, y0, Qb]
   rfl) (fun x _ _ => rfl)
 have hz : ((idx n).map D.int).length <= sizeLine := by rw [g0k, vT]; exact szl (by omega)
 have hz2 : ((idx n).map fun x => D.tup [.int x, lD (PM n ts x)]).length <= sizeLine := by rw [g0k, vT]; exact szl (by omega)
 simp only [jh, WI, yF, zQ, g0f, g0y, g0d, g0m, Nat.reduceAdd, Nat.reduceSub, g0e, g0v, g0s, zr, yJ, zY, xG, Zy, zm, zA, zt, wL, yB, g0b, g0c, g0a, h0, hr, if_pos hz, xQ, vx, e1, g0z, g0i, g0g, yx, W3, zU, x5, GC, if_pos hz2, e2, yR]
theorem Ut (n : Nat) (ts : List T3) (c : Int -> Kd) (hn : n <= 40) (hk : ∀ x ∈ idx n, y9 [zh n ts, lD (PM n ts x)] = some (kD (c x))) : ji [zh n ts] = some (.lst (((idx n).filter fun x => decide ((PM n ts x).headD 0 = x)).map fun x => .tup [lD (PM n ts x), kD (c x)])) := by
 have e0 := Qq n ts hn
 have e1 := kN (f := tupF (za (vF 0) (za (zN y9 (za (vF 1) (za (vF 0) zw))) zw))) (C := [.fr (zh n ts)]) (ι := fun x => lD (PM n ts x)) (φ := fun x => .tup [lD (PM n ts x), kD (c x)]) ((idx n).filter fun x => decide ((PM n ts x).headD 0 = x)) .no (fun x hx => by
  have := hk x (g1q.mp hx).1
  simp only [jz, zR, zm, zA, yB, g0b, g0c, g0a, this, g0d, g0m]
  rw [if_pos (szl (by omega))])
 have hz : (((idx n).filter fun x => decide ((PM n ts x).headD 0 = x)).map fun x => lD (PM n ts x)).length <= sizeLine := by
  rw [g0k]
  have := g2x (fun x => decide ((PM n ts x).headD 0 = x)) (idx n)
  rw [vT] at this
  exact szl (by omega)
 simp only [ji, WK, yF, zQ, g0f, g0y, g0d, g0m, Nat.reduceAdd, Nat.reduceSub, g0e, g0t, g0v, g0s, yx, zY, xG, zU, zR, zm, zA, yB, g0b, g0c, g0a, e0, x5, if_pos hz, xQ, vx, e1, g0z, yR]
theorem Vp (t : Int -> Int -> Int) (b : Bool) (ms : List Int) (hm : ms.length <= 9) : (jf t b ms).length <= 100 := by
 have h1 := vX t ms
 have h2 : ∀ es : List Int, (es.flatMap (keM t ms)).length <= 9 * es.length := fun es => by
  induction es with
  | nil => simp
  | cons e es ih =>
   rw [List.flatMap_cons, g0h, g0d]
   have : (keM t ms e).length <= 9 := by
    unfold keM
    split
    ·have := vX t (woM ms e)
     have hwl : (woM ms e).length <= ms.length := g2x _ _
     rw [g0k]
     omega
    ·simp
   omega
 unfold jf Gj
 rw [g0h, g0k]
 have h3 : (Hm t ms).length <= 9 * ms.length := h2 ms
 split
 ·omega
 ·simp; omega
theorem kt0 : kD (0, 0) = .str "-" := rfl
theorem Pw : kT (1, 1) ≠ "-" := by decide +kernel
theorem QS {n m : Nat} {us : List T3} (h : Up (zi us) m n) (hb : (3 <= m /\ zi us 0 ((m : Int) - 1) ≠ 2) \/ bdB (zi us) m = true) (hm : m <= 6) (hl : us.length <= 90) : y9 [zh n us, lD (idx m)] = some (kD (0, 0)) :=
 Vm n us (idx m) (0, 0) (by rw [vT]; omega) hl (fun k hk => .inl (QW h hb hk)) (.inl rfl) (.inl rfl) (Vp _ _ _ (by rw [vT]; omega))
theorem Gg (n : Nat) (us : List T3) (x : Int) (hl : us.length <= 90) : y9 [zh n us, lD [x]] = some (kD (1, 1)) :=
 Vm n us [x] (1, 1) (by simp) hl (fun k hk => .inr (by rw [Vo] at hk; simpa using hk)) (.inr (by rw [Vo]; simp)) (.inr Pw) (Vp _ _ _ (by simp))
theorem Wq {n m : Nat} {us : List T3} (h : Up (zi us) m n) (hb : (3 <= m /\ zi us 0 ((m : Int) - 1) ≠ 2) \/ bdB (zi us) m = true) (hn : n <= 6) (hl : us.length <= 90) : vI [zh n us] = some (y4 (g0u m)) := by
 have hm := h.m2
 have hmn := h.mn
 have pm : ∀ x ∈ idx n, PM n us x = if x < (m : Int) then idx m else [x] := fun x hx => by
  rw [y6] at hx
  show uP (jM (zi us) n x) = _
  by_cases c : x < (m : Int)
  ·rw [if_pos c]; exact Kj (h.part hx.1 c)
  ·rw [if_neg c, h.alone (by omega) hx.2]; exact Ki x
 have k := Ut n us (fun x => if x < (m : Int) then (0, 0) else (1, 1)) (by omega) fun x hx => by
  rw [pm x hx]
  by_cases c : x < (m : Int)
  ·rw [if_pos c, if_pos c]; exact QS h hb (by omega) hl
  ·rw [if_neg c, if_neg c]; exact Gg n us x hl
 obtain ⟨n', rfl⟩ : ∃ n', n = n' + 1 := ⟨n - 1, by omega⟩
 have i0 : idx (n' + 1) = 0 :: upI 1 n' := by rw [Q3, j3]; rfl
 have p0 : PM (n' + 1) us 0 = idx m := by rw [pm 0 (by rw [y6]; omega), if_pos (by omega)]
 have m0 : (idx m).headD 0 = 0 := by
  obtain ⟨m', rfl⟩ : ∃ m', m = m' + 1 := ⟨m - 1, by omega⟩
  rw [Q3, j3]
  rfl
 rw [i0, g3j (by rw [p0, m0]; rfl), g0f, p0, if_pos (by omega), kt0] at k
 have es : eqF (.str "-") (.str "-") = some (.bl true) := Jh (g2e _)
 have w : D.tup ((idx m).map D.int) = y4 (g0u m) := by
  unfold y4 idx
  rw [g1d]
  rfl
 simp only [vI, Zh, yF, zQ, g0f, g0y, g0d, g0m, Nat.reduceAdd, Nat.reduceSub, g0e, g0v, g0s, zr, qq, zU, zR, zm, zA, yB, g0b, g0c, g0a, k, x5]
 unfold yC
 simp only [YS, j8, wj, YT, g0d, g0m, Nat.reduceAdd, if_true, g0i, g0g, g0a, wy, vO, zt, yB, wL, g0b, g0c, es, yx, zR, zm, zA, Kt, w, yR]
theorem uC {l : List Int} {k v : Int} {j i : Nat} {f g : FE} {ρ : Rho} (hρ : ρ[i]? = some (.ol (l.map D.int))) (hf : f ρ = some (.int v)) (hg : g ρ = some (.int k)) (hj : ixN l.length k = some j) : uY i g f ρ = some (.nx (ρ.set i (.ol ((l.set j v).map D.int)))) := by
 rw [HM, hf, hg]
 simp only [g0a, hρ, g0k, hj, List.map_set]
theorem Vq {n : Nat} {k : Int} (h0 : 0 <= k) (h1 : k < n) : ixN n k = some k.toNat := by
 unfold ixN
 rw [if_pos h0, if_pos h1]
theorem Wj {n : Nat} (h : 1 <= n) : ixN n (-1) = some (n - 1) := by
 unfold ixN
 rw [if_neg (by omega), if_pos (by omega)]
 congr 1
 omega
abbrev fR (m q : Int) (l : List Int) (w : Int) : Rho := [.fr (.int m), .fr (.int q), .ol (l.map D.int), .fr (.int w), .no]
def f1 : FS := ifS (blF (zc eqF (vF 3) (cF (.int 1)))) (uY 2 (zc kh (zc ur (vF 1) (cF (.int 5))) (zc jT (vF 0) (cF (.int 1)))) (cF (.int 0))) nxF
def f2 : FS := ifS (blF (zc eqF (vF 3) (cF (.int 2)))) (yb (uY 2 (cF (.int 0)) (cF (.int 4))) (uY 2 (wG Y4 (cF (.int 1))) (cF (.int 4)))) nxF
def f3 : FS := ifS (blF (zc eqF (vF 3) (cF (.int 3)))) (yb (uY 2 (cF (.int 0)) (cF (.int 5))) (uY 2 (wG Y4 (cF (.int 1))) (zc ixD (zT (Zm (za (cF (.int 4)) (za (cF (.int 5)) zw)))) (zc kh (zc ur (vF 1) (cF (.int 5))) (cF (.int 2)))))) nxF
def f4 : FS := ifS (blF (zc eqF (vF 3) (cF (.int 4)))) (uY 2 (zc jT (zc kh (zc ur (vF 1) (cF (.int 5))) (cF (.int 2))) (cF (.int 1))) (cF (.int 6))) nxF
noncomputable def fT : FS := Wm 2 (yb (VL 4 (xt 1 [2] (J3 (za (zc jT (vF 0) (cF (.int 1))) zw)) (zu 0) ttF (tupF (za (vF 0) (za (zc ue (vF 0) (cF (.int 1))) (za (zc ixD (vF 1) (vF 0)) zw)))))) (yb (ifS (blF (zc eqF (vF 3) (cF (.int 0)))) (vd 4 (tupF (za (cF (.int 0)) (za (zc jT (vF 0) (cF (.int 1))) (za (cF (.int 3)) zw))))) nxF) (Wm 4 (yY (vF 4)))))
section
variable {m q : Int} {l : List Int}
theorem eqi (w c : Int) : blF (zc eqF (vF 3) (cF (.int c))) (fR m q l w) = some (decide (w = c)) := by
 simp only [vO, zt, yB, wL, g0b, g0c, g0a, Qb]
theorem XM {c w : Int} {F : FS} (h : w ≠ c) : ifS (blF (zc eqF (vF 3) (cF (.int c)))) F nxF (fR m q l w) = some (.nx (fR m q l w)) := by
 rw [wy, eqi, g0a, if_neg (by simpa using h)]
 rfl
theorem FW (hm : 3 <= m) (hl : (l.length : Int) = m - 1) : f1 (fR m q l 1) = some (.nx (fR m q (l.set (q / 5 % (m - 1)).toNat 0) 1)) := by
 unfold f1
 rw [wy, eqi, g0a, if_pos (by simp)]
 have d1 := wC (i := q) (show (0 : Int) < 5 by decide) (by decide)
 have d2 := xq (i := q / 5) (show (0 : Int) < m - 1 by omega)
 have b1 := Int.emod_nonneg (q / 5) (show m - 1 ≠ 0 by omega)
 have b2 := Int.emod_lt_of_pos (q / 5) (show (0 : Int) < m - 1 by omega)
 exact uC (k := q / 5 % (m - 1)) rfl rfl (by simp only [zt, yB, wL, g0b, g0c, g0a, d1, V6, d2]) (Vq b1 (by omega))
theorem FV (hl : 1 <= l.length) : f2 (fR m q l 2) = some (.nx (fR m q ((l.set 0 4).set (l.length - 1) 4) 2)) := by
 unfold f2
 rw [wy, eqi, g0a, if_pos (by simp), zr, uC (l := l) (k := 0) (v := 4) (j := 0) rfl rfl rfl (Vq (by omega) (by omega)), g0a]
 exact uC (l := l.set 0 4) (k := -1) (v := 4) rfl rfl rfl (by rw [g2g]; exact Wj hl)
theorem FU (hl : 1 <= l.length) : ∃ v : Int, (v = 4 \/ v = 5) /\ f3 (fR m q l 3) = some (.nx (fR m q ((l.set 0 5).set (l.length - 1) v) 3)) := by
 have d1 := wC (i := q) (show (0 : Int) < 5 by decide) (by decide)
 have d2 := xq (i := q / 5) (show (0 : Int) < 2 by decide)
 have z2 : 0 + 1 + 1 <= sizeLine := szl (by decide)
 have px : ∃ v : Int, (v = 4 \/ v = 5) /\ ixD (.lst [.int 4, .int 5]) (.int (q / 5 % 2)) = some (.int v) := by
  have : q / 5 % 2 = 0 \/ q / 5 % 2 = 1 := by omega
  rcases this with e | e <;> rw [e]
  ·exact ⟨4, .inl rfl, by simp [ixD, atI, ixN]⟩
  ·exact ⟨5, .inr rfl, by simp [ixD, atI, ixN]⟩
 obtain ⟨v, hv, e⟩ := px
 refine ⟨v, hv, ?_⟩
 unfold f3
 rw [wy, eqi, g0a, if_pos (by simp), zr, uC (l := l) (k := 0) (v := 5) (j := 0) rfl rfl rfl (Vq (by omega) (by omega)), g0a]
 exact uC (l := l.set 0 5) (k := -1) (v := v) rfl (by simp only [zt, zY, jA, zm, zA, yB, wL, g0i, g0g, g0b, g0c, g0a, g0d, g0m, if_pos z2, g0z, d1, d2, e]) rfl (by rw [g2g]; exact Wj hl)
theorem FR (hl : 1 <= l.length) : ∃ j : Nat, (j = 0 \/ j = l.length - 1) /\ f4 (fR m q l 4) = some (.nx (fR m q (l.set j 6) 4)) := by
 have d1 := wC (i := q) (show (0 : Int) < 5 by decide) (by decide)
 have d2 := xq (i := q / 5) (show (0 : Int) < 2 by decide)
 have go : ∀ j, ixN l.length (q / 5 % 2 - 1) = some j -> f4 (fR m q l 4) = some (.nx (fR m q (l.set j 6) 4)) := fun j hj => by
  unfold f4
  rw [wy, eqi, g0a, if_pos (by simp)]
  exact uC (k := q / 5 % 2 - 1) rfl rfl (by simp only [zt, yB, wL, g0b, g0c, g0a, d1, d2, V6]) hj
 have : q / 5 % 2 = 0 \/ q / 5 % 2 = 1 := by omega
 rcases this with e | e
 ·exact ⟨l.length - 1, .inr rfl, go _ (by rw [e]; exact Wj hl)⟩
 ·exact ⟨0, .inl rfl, go _ (by rw [e]; exact Vq (by omega) (by omega))⟩
abbrev cD (ts : List T3) : D := .lst (ts.map tD)
theorem Xk {w : Int} (hl : (l.length : Int) = m - 1) (h40 : l.length <= 40) : Vd (fT (fR m q l w)) = some (cD (kO l ++ if w = 0 then [(0, m - 1, 3)] else [])) := by
 have hr : uS [.int (m - 1)] = some ((idx l.length).map D.int) := by rw [<- hl, vy (by omega) (by omega), ui]
 have e1 := kN (f := tupF (za (vF 0) (za (zc ue (vF 0) (cF (.int 1))) (za (zc ixD (vF 1) (vF 0)) zw)))) (C := [.fr (lD l)]) (ι := D.int) (φ := fun k => .tup [.int k, .int (k + 1), .int (l.getD k.toNat 0)]) (idx l.length) .no (fun k hk => by
  rw [y6] at hk
  have := NF l k.toNat (l.getD k.toNat 0) (by simp [g0j, show k.toNat < l.length by omega])
  rw [show ((k.toNat : Nat) : Int) = k by omega] at this
  have hz : 3 <= sizeLine := szl (by omega)
  simp only [jz, zm, zA, yB, zt, wL, g0b, g0c, g0a, Qd, this, g0d, g0m, Nat.reduceAdd, if_pos hz])
 have ec : (idx l.length).map (fun k => D.tup [.int k, .int (k + 1), .int (l.getD k.toNat 0)]) = (kO l).map tD := by
  unfold kO idx
  rw [g1d, g1d]
  apply g2z
  ·simp
  ·intro i h1 h2
   simp at h1
   simp [tD, g0j, h1]
 rw [ec] at e1
 have hz : ((idx l.length).map D.int).length <= sizeLine := by rw [g0k, vT]; exact szl (by omega)
 have cl : (kO l).length = l.length := by simp [kO]
 have hz2 : ((kO l).map tD).length < sizeLine := by rw [g0k, cl]; exact wO (by omega)
 have z3 : 0 + 1 + 1 + 1 <= sizeLine := szl (by decide)
 unfold fT fR
 have fz : ∀ (a b d : Slot) (ds : List D), frz 2 [a, b, .ol ds, d, .no] = some [a, b, .fr (.lst ds), d, .no] := fun _ _ _ _ => rfl
 have fz4 : ∀ (a b c d : Slot) (ds : List D), frz 4 [a, b, c, d, .ol ds] = some [a, b, c, d, .fr (.lst ds)] := fun _ _ _ _ _ => rfl
 simp only [YU, fz, g0b, g0c, g0i, g0g, zr, j9, xG, Zy, zm, zA, zt, yB, wL, g0a, V6, hr, if_pos hz, xQ, vx, g0f, g0y, g0e, g0v, g0s, e1, wy, vO, Qb]
 by_cases c : w = 0
 ·simp only [c, decide_true, if_true, qr, jz, zm, zA, zt, yB, wL, g0b, g0c, g0a, V6, g0d, g0m, if_pos z3, if_pos hz2, g0i, g0g, YU, fz4, yx, yR]
  show _ = some (D.lst (List.map tD _))
  rw [g1f]
  rfl
 ·simp only [c, decide_false, g1o, if_false, jK, g0a, YU, fz4, g0b, g0c, g0i, g0g, yx, yB, yR, g0t]
end
theorem Jd (m : Nat) (q : Int) (h2 : 2 <= m) (h6 : m <= 6) : ∃ ts ∈ kW m, wc [.int m, .int q] = some (cD ts) := by
 by_cases c2 : m = 2
 ·subst c2
  have z1 : 1 <= sizeLine := szl (by decide)
  have z3 : 0 + 1 + 1 + 1 <= sizeLine := szl (by decide)
  refine ⟨[(0, 1, 0)], by decide, ?_⟩
  simp [wc, qP, g0e, z1, sizeLine_eq]
  rfl
 ·have hm : (3 : Int) <= m := by omega
  have m3 := Ym (f := zc jT (vF 0) (cF (.int 1))) (ρ := [.fr (.int m), .fr (.int q), .no, .no, .no]) (k := (m : Int) - 1) (by simp) (by omega) (by omega)
  rw [show ((m : Int) - 1).toNat = m - 1 by omega] at m3
  have md := xq (i := q) (show (0 : Int) < 5 by decide)
  have ne : ¬ ((m : Int) = 2) := by omega
  have start : wc [.int m, .int q] = Vd (yb f1 (yb f2 (yb f3 (yb f4 fT))) (fR m q (r3 (m - 1)) (q % 5))) := by
   simp only [wc, qP, yF, zQ, g0f, g0y, g0d, g0m, Nat.reduceAdd, Nat.reduceSub, g0e, g0v, g0s]
   rw [zr (F := ifS _ _ _), wy]
   simp only [vO, zt, yB, wL, g0b, g0a, Qb, ne, decide_false, g1o, if_false, jK]
   rw [zr (F := VL 2 _), j9, m3]
   simp only [g0a, g0i, g0g]
   rw [zr (F := xh 3 _), yJ]
   simp only [zt, yB, wL, g0b, g0c, g0a, md, g0i, g0g]
   rfl
  rw [start]
  have bl : kW m = [kO (r3 (m - 1)) ++ [(0, (m : Int) - 1, 3)]] ++ (g0u (m - 1)).map (fun k => kO ((r3 (m - 1)).set k 0)) ++
    [kO (((r3 (m - 1)).set 0 4).set (m - 2) 4), kO (((r3 (m - 1)).set 0 5).set (m - 2) 4), kO (((r3 (m - 1)).set 0 5).set (m - 2) 5), kO ((r3 (m - 1)).set 0 6), kO ((r3 (m - 1)).set (m - 2) 6)] := by
   unfold kW
   rw [if_neg c2]
  rw [bl]
  have rl : (r3 (m - 1)).length = m - 1 := by simp [r3]
  have e2 : (r3 (m - 1)).length - 1 = m - 2 := by omega
  have hw : q % 5 = 0 \/ q % 5 = 1 \/ q % 5 = 2 \/ q % 5 = 3 \/ q % 5 = 4 := by omega
  rcases hw with w | w | w | w | w <;> rw [w]
  ·refine ⟨_, g2d _ (g2d _ g0l), ?_⟩
   rw [zr, show f1 _ = _ from XM (by decide), g0a]
   dsimp only
   rw [zr, show f2 _ = _ from XM (by decide), g0a]
   dsimp only
   rw [zr, show f3 _ = _ from XM (by decide), g0a]
   dsimp only
   rw [zr, show f4 _ = _ from XM (by decide), g0a]
   dsimp only
   rw [Xk (by rw [rl]; omega) (by omega), if_pos rfl]
  ·refine ⟨kO ((r3 (m - 1)).set (q / 5 % ((m : Int) - 1)).toNat 0), g2d _ (g0q _ (g1r.mpr ⟨(q / 5 % ((m : Int) - 1)).toNat, g1s.mpr ?_, rfl⟩)), ?_⟩
   ·have := Int.emod_nonneg (q / 5) (show (m : Int) - 1 ≠ 0 by omega)
    have := Int.emod_lt_of_pos (q / 5) (show (0 : Int) < (m : Int) - 1 by omega)
    omega
   ·rw [zr, FW hm (by rw [rl]; omega), g0a]
    dsimp only
    rw [zr, show f2 _ = _ from XM (by decide), g0a]
    dsimp only
    rw [zr, show f3 _ = _ from XM (by decide), g0a]
    dsimp only
    rw [zr, show f4 _ = _ from XM (by decide), g0a]
    dsimp only
    rw [Xk (by rw [g2g, rl]; omega) (by rw [g2g]; omega), if_neg (by decide), g0t]
  ·refine ⟨_, g0q _ (g0l), ?_⟩
   rw [zr, show f1 _ = _ from XM (by decide), g0a]
   dsimp only
   rw [zr, FV (by omega), e2, g0a]
   dsimp only
   rw [zr, show f3 _ = _ from XM (by decide), g0a]
   dsimp only
   rw [zr, show f4 _ = _ from XM (by decide), g0a]
   dsimp only
   rw [Xk (by simp only [g2g]; omega) (by simp only [g2g]; omega), if_neg (by decide), g0t]
  ·obtain ⟨v, hv, e⟩ := FU (m := m) (q := q) (l := r3 (m - 1)) (by omega)
   refine ⟨kO (((r3 (m - 1)).set 0 5).set (m - 2) v), g0q _ ?_, ?_⟩
   ·rcases hv with rfl | rfl <;> simp
   ·rw [zr, show f1 _ = _ from XM (by decide), g0a]
    dsimp only
    rw [zr, show f2 _ = _ from XM (by decide), g0a]
    dsimp only
    rw [zr, e, e2, g0a]
    dsimp only
    rw [zr, show f4 _ = _ from XM (by decide), g0a]
    dsimp only
    rw [Xk (by simp only [g2g]; omega) (by simp only [g2g]; omega), if_neg (by decide), g0t]
  ·obtain ⟨j, hj, e⟩ := FR (m := m) (q := q) (l := r3 (m - 1)) (by omega)
   refine ⟨kO ((r3 (m - 1)).set j 6), g0q _ ?_, ?_⟩
   ·rw [e2] at hj
    rcases hj with rfl | rfl <;> simp
   ·rw [zr, show f1 _ = _ from XM (by decide), g0a]
    dsimp only
    rw [zr, show f2 _ = _ from XM (by decide), g0a]
    dsimp only
    rw [zr, show f3 _ = _ from XM (by decide), g0a]
    dsimp only
    rw [zr, e, g0a]
    dsimp only
    rw [Xk (by simp only [g2g]; omega) (by simp only [g2g]; omega), if_neg (by decide), g0t]
abbrev kvT (u : T3) : List Key × D := ([.inl u.1, .inl u.2.1], .int u.2.2)
def J4 (us : List T3) (i j v : Int) : List T3 := if (us.any fun u => decide (u.1 = i /\ u.2.1 = j)) = true then us.map (fun u => if u.1 = i /\ u.2.1 = j then (u.1, u.2.1, v) else u) else us ++ [(i, j, v)]
theorem Fz (a b c d : Int) : (([.inl a, .inl b] : List Key) = [.inl c, .inl d]) ↔ (a = c /\ b = d) := by
 constructor
 ·intro h
  obtain ⟨h1, h2⟩ := List.cons.inj h
  obtain ⟨h2, _⟩ := List.cons.inj h2
  exact ⟨Sum.inl.inj h1, Sum.inl.inj h2⟩
 ·rintro ⟨rfl, rfl⟩; rfl
theorem G8 (us : List T3) (i j v : Int) : KA (us.map kvT) [.inl i, .inl j] (.int v) = (J4 us i j v).map kvT := by
 unfold KA J4
 have e : ((us.map kvT).any fun kv => decide (kv.1 = [.inl i, .inl j])) = us.any fun u => decide (u.1 = i /\ u.2.1 = j) := by
  rw [List.any_map]
  congr 1
  funext u
  exact decide_eq_decide.mpr (Fz _ _ _ _)
 rw [e]
 split
 ·rw [g1d, g1d]
  apply g1z
  intro u _
  simp only [Function.comp]
  by_cases c : u.1 = i /\ u.2.1 = j
  ·rw [if_pos ((Fz _ _ _ _).mpr c), if_pos c]
  ·rw [if_neg (fun z => c ((Fz _ _ _ _).mp z)), if_neg c]
 ·rw [g1f]
  rfl
theorem Mu {i j : Int} (h : i < j) : ∀ us : List T3, (atD (us.map kvT) [.inl i, .inl j]).getD (.int 2) = .int (zi us i j)
 | [] => rfl
 | u :: us => by
  have l1 : mlo i j = i := by unfold mlo; rw [if_neg (by omega)]
  have l2 : mhi i j = j := by unfold mhi; rw [if_pos (by omega)]
  have ih := Mu h us
  unfold atD at ih ⊢
  rw [g0f]
  unfold zi
  rw [l1, l2]
  by_cases c : u.1 = i /\ u.2.1 = j
  ·have e : List.find? (fun kv : List Key × D => decide (kv.1 = [.inl i, .inl j])) (kvT u :: us.map kvT) = some (kvT u) := List.find?_cons_of_pos (decide_eq_true ((Fz _ _ _ _).mpr c))
   rw [if_pos c, e]
   rfl
  ·have e : List.find? (fun kv : List Key × D => decide (kv.1 = [.inl i, .inl j])) (kvT u :: us.map kvT) = List.find? (fun kv : List Key × D => decide (kv.1 = [.inl i, .inl j])) (us.map kvT) := List.find?_cons_of_neg (fun z => c ((Fz _ _ _ _).mp (of_decide_eq_true z)))
   rw [if_neg c, e]
   exact ih
theorem Kc {i j v : Int} {i' j' : Int} : ∀ us : List T3, zi (J4 us i j v) i' j' = if mlo i' j' = i /\ mhi i' j' = j then v else zi us i' j' := by
 have rep : ∀ us : List T3, zi (us.map (fun u => if u.1 = i /\ u.2.1 = j then (u.1, u.2.1, v) else u)) i' j' = if (mlo i' j' = i /\ mhi i' j' = j) /\ (us.any fun u => decide (u.1 = i /\ u.2.1 = j)) = true then v else zi us i' j' := by
  intro us
  induction us with
  | nil => simp [zi]
  | cons u us ih =>
   rw [g0f, g2p]
   unfold zi
   rw [ih]
   by_cases c : u.1 = i /\ u.2.1 = j
   ·rw [if_pos c, decide_eq_true c, Bool.true_or]
    by_cases d : mlo i' j' = i /\ mhi i' j' = j
    ·rw [if_pos ⟨c.1.trans d.1.symm, c.2.trans d.2.symm⟩, if_pos ⟨d, rfl⟩]
    ·have nd : ¬ (u.1 = mlo i' j' /\ u.2.1 = mhi i' j') := fun z => d ⟨z.1.symm.trans c.1, z.2.symm.trans c.2⟩
     rw [if_neg nd, if_neg (fun z => d z.1), if_neg (fun z => d z.1), if_neg nd]
   ·rw [if_neg c, decide_eq_false c, Bool.false_or]
    by_cases d : u.1 = mlo i' j' /\ u.2.1 = mhi i' j'
    ·rw [if_pos d, if_neg (fun z => c ⟨d.1.trans z.1.1, d.2.trans z.1.2⟩), if_pos d]
    ·rw [if_neg d, if_neg d]
 intro us
 unfold J4
 by_cases a : (us.any fun u => decide (u.1 = i /\ u.2.1 = j)) = true
 ·rw [if_pos a, rep]
  by_cases d : mlo i' j' = i /\ mhi i' j' = j
  ·rw [if_pos ⟨d, a⟩, if_pos d]
  ·rw [if_neg (fun z => d z.1), if_neg d]
 ·rw [if_neg a]
  have no : ∀ u ∈ us, ¬ (u.1 = i /\ u.2.1 = j) := fun u hu z => a (g2t.mpr ⟨u, hu, decide_eq_true z⟩)
  clear a rep
  induction us with
  | nil =>
   show (if i = mlo i' j' /\ j = mhi i' j' then v else 2) = _
   by_cases d : mlo i' j' = i /\ mhi i' j' = j
   ·rw [if_pos d, if_pos ⟨d.1.symm, d.2.symm⟩]
   ·rw [if_neg d, if_neg (fun z => d ⟨z.1.symm, z.2.symm⟩)]
    rfl
  | cons u us ih =>
   rw [g0v]
   unfold zi
   rw [ih fun x hx => no x (g0o _ hx)]
   by_cases d : u.1 = mlo i' j' /\ u.2.1 = mhi i' j'
   ·rw [if_pos d, if_pos d, if_neg (fun z => no u g0l ⟨d.1.trans z.1, d.2.trans z.2⟩)]
   ·rw [if_neg d, if_neg d]
theorem C5 {m : Nat} {us : List T3} (h : UJ m us) {i j v : Int} (h1 : 0 <= i) (h2 : i < j) (h3 : j < m) (h4 : v = 0 \/ (3 <= v /\ v <= 6)) : UJ m (J4 us i j v) /\ (J4 us i j v).length <= us.length + 1 := by
 unfold J4
 split
 ·refine ⟨fun p hp => ?_, by simp⟩
  obtain ⟨u, hu, rfl⟩ := g1r.mp hp
  split
  ·obtain ⟨a, b, c, _⟩ := h u hu
   exact ⟨a, b, c, h4⟩
  ·exact h u hu
 ·refine ⟨fun p hp => ?_, by simp⟩
  rcases g1l.mp hp with hp | hp
  ·exact h p hp
  ·have e : p = (i, j, v) := by simpa using hp
   subst e
   exact ⟨h1, h2, h3, h4⟩
def Mr (ts us : List T3) : Prop := ∀ i j : Nat, i ≠ j -> Le (zi ts i j) (zi us i j)
theorem Ke (us : List T3) {i j i' j' : Int} (h1 : mlo i' j' = mlo i j) (h2 : mhi i' j' = mhi i j) : zi us i' j' = zi us i j := by
 induction us with
 | nil => rfl
 | cons u us ih => unfold zi; rw [h1, h2, ih]
theorem Mr.put {ts us : List T3} (h : Mr ts us) {i j v : Int} (hij : i < j) (hv : Le (zi us i j) v) : Mr ts (J4 us i j v) := fun a b hab => by
 rw [Kc]
 have l := h a b hab
 by_cases d : mlo (a : Int) b = i /\ mhi (a : Int) b = j
 ·rw [if_pos d]
  have l1 : mlo i j = i := by unfold mlo; rw [if_neg (by omega)]
  have l2 : mhi i j = j := by unfold mhi; rw [if_pos (by omega)]
  rw [Ke us (i := i) (j := j) (d.1.trans l1.symm) (d.2.trans l2.symm)] at l
  unfold Le at *
  omega
 ·rw [if_neg d]; exact l
noncomputable def pB1 : FS := Jo 4 (za (vF 5) (za (vF 6) zw)) (vF 7)
theorem W5 (a0 a1 a2 a3 a8 a9 a10 a11 : Slot) : ∀ (l acc : List T3) (s5 s6 s7 : Slot), ((acc ++ l).map fun u => (u.1, u.2.1)).Nodup -> acc.length + l.length <= 100 -> ∃ s5' s6' s7',
  yC (qQ 3 (yg (zu 5) (yg (zu 6) (yg (zu 7) jF)))) pB1 (l.map tD) [a0, a1, a2, a3, .oT (acc.map kvT), s5, s6, s7, a8, a9, a10, a11] = some (.nx [a0, a1, a2, a3, .oT ((acc ++ l).map kvT), s5', s6', s7', a8, a9, a10, a11])
 | [], acc, s5, s6, s7, _, _ => ⟨s5, s6, s7, by rw [g0t]; rfl⟩
 | u :: l, acc, s5, s6, s7, hnd, hlen => by
  rw [g0d] at hlen
  obtain ⟨t5, t6, t7, e⟩ := W5 a0 a1 a2 a3 a8 a9 a10 a11 l (acc ++ [u]) (.fr (.int u.1)) (.fr (.int u.2.1)) (.fr (.int u.2.2)) (by rw [g1b]; exact hnd) (by rw [g0h, g1h]; omega)
  refine ⟨t5, t6, t7, ?_⟩
  have no : (acc.any fun w => decide (w.1 = u.1 /\ w.2.1 = u.2.1)) = false := by
   rw [List.any_eq_false]
   intro w hw
   rw [decide_eq_true_eq]
   intro z
   rw [g1f, List.nodup_append] at hnd
   exact hnd.2.2 (w.1, w.2.1) (g1r.mpr ⟨w, hw, rfl⟩) (u.1, u.2.1) (by simp) (by rw [z.1, z.2])
  have pk : KA (acc.map kvT) [.inl u.1, .inl u.2.1] (.int u.2.2) = (acc ++ [u]).map kvT := by
   rw [G8]
   unfold J4
   rw [if_neg (by rw [no]; decide)]
  have ko : vB [.int u.1, .int u.2.1] = some [.inl u.1, .inl u.2.1] := rfl
  have cnd : (acc.map kvT).length < sizeLine /\ 0 + 1 + 1 <= sizeLine := ⟨by rw [g0k]; exact wO (by omega), szl (by decide)⟩
  rw [g1b, g1u] at e
  rw [g0f]
  unfold yC
  simp only [pB1, tD, YS, j8, wj, YT, g0d, g0m, Nat.reduceAdd, if_true, g0i, g0g, g0a, HS, zm, zA, yB, g0c, g0b, ko, if_pos cnd, pk]
  unfold pB1 at e
  exact e
def gE : FE := Wu 4 (vF 10) (cF (.int 2))
def vE : FE := zc ixD (zT (Zm (za (zN QL (za (cF (.int 3)) (za gE zw))) (za (cF (.int 5)) (za (cF (.int 6)) (za (cF (.int 0)) zw)))))) (zN K9 (za (cF (.int 3)) (za (zN QL (za (cF (.int 0)) (za (zc jT gE (cF (.int 3))) zw))) zw)))
theorem C4 {ρ : Rho} {t : Int} (hg : gE ρ = some (.int t)) (h : 2 <= t /\ t <= 6) : ∃ v : Int, Le t v /\ (v = 0 \/ (3 <= v /\ v <= 6)) /\ vE ρ = some (.int v) := by
 have z4 : 0 + 1 + 1 + 1 + 1 <= sizeLine := szl (by decide)
 have : t = 2 \/ t = 3 \/ t = 4 \/ t = 5 \/ t = 6 := by omega
 rcases this with rfl | rfl | rfl | rfl | rfl
 ·exact ⟨3, .inr (by decide), .inr (by decide), by simp [vE, hg, z4, sizeLine_eq, ixD, atI, ixN]⟩
 ·exact ⟨3, .inr (by decide), .inr (by decide), by simp [vE, hg, z4, sizeLine_eq, ixD, atI, ixN]⟩
 ·exact ⟨5, .inr (by decide), .inr (by decide), by simp [vE, hg, z4, sizeLine_eq, ixD, atI, ixN]⟩
 ·exact ⟨6, .inr (by decide), .inr (by decide), by simp [vE, hg, z4, sizeLine_eq, ixD, atI, ixN]⟩
 ·exact ⟨0, .inl rfl, .inl rfl, by simp [vE, hg, z4, sizeLine_eq, ixD, atI, ixN]⟩
noncomputable def rB : FS := yb (xh 9 (zN xK (za (vF 8) (za (cF (.int 2)) zw)))) (yb (xh 5 (zc kh (vF 9) (vF 3))) (yb (xh 6 (zc kh (zc ur (vF 9) (cF (.int 8))) (vF 3))) (yb (JP 10 (za (zN K9 (za (vF 5) (za (vF 6) zw))) (za (zN QL (za (vF 5) (za (vF 6) zw))) zw))) (ifS (XQ (blF (zc neF (vF 5) (vF 6))) (blF (zc neF gE (cF (.int 0))))) (ZQ 4 10 vE) nxF))))
theorem Qg {m : Nat} (hm : 2 <= m) {ts : List T3} (a0 a1 a2 a7 a11 : Slot) : ∀ (l : List Int) (us : List T3) (s5 s6 s8 s9 s10 : Slot), UJ m us -> Mr ts us -> us.length + l.length <= 90 -> ∃ us' s5' s6' s8' s9' s10', UJ m us' /\ Mr ts us' /\ us'.length <= 90 ∧
  yC (zu 8) rB (l.map D.int) [a0, a1, a2, .fr (.int m), .oT (us.map kvT), s5, s6, a7, s8, s9, s10, a11] = some (.nx [a0, a1, a2, .fr (.int m), .oT (us'.map kvT), s5', s6', a7, s8', s9', s10', a11])
 | [], us, s5, s6, s8, s9, s10, hu, hr, hlen => ⟨us, s5, s6, s8, s9, s10, hu, hr, by simp at hlen; omega, rfl⟩
 | c :: l, us, s5, s6, s8, s9, s10, hu, hr, hlen => by
  rw [g0d] at hlen
  obtain ⟨z, hz, _, mv⟩ := We c 2 (by omega)
  have mv' : xK [.int c, .int 2] = some (.int z) := mv
  have hmp : (0 : Int) < m := by omega
  have d1 := xq (i := z) hmp
  have f8 := wC (i := z) (show (0 : Int) < 8 by decide) (by decide)
  have d2 := xq (i := z / 8) hmp
  have b1 : 0 <= z % m := Int.emod_nonneg _ (by omega)
  have b2 : z % m < m := Int.emod_lt_of_pos _ hmp
  have b3 : 0 <= z / 8 % m := Int.emod_nonneg _ (by omega)
  have b4 : z / 8 % m < m := Int.emod_lt_of_pos _ hmp
  have z2 : 0 + 1 + 1 <= sizeLine := szl (by decide)
  generalize hx : z % (m : Int) = x at *
  generalize hy : z / 8 % (m : Int) = y at *
  obtain ⟨a, b, ea, eb, hab⟩ : ∃ a b : Int, K9 [.int x, .int y] = some (.int a) /\ QL [.int x, .int y] = some (.int b) /\ (x ≠ y -> 0 <= a /\ a < b /\ b < m) := by
   refine ⟨_, _, MV, MW, fun hne => ⟨?_, ?_, ?_⟩⟩
   ·split <;> omega
   ·split <;> split <;> omega
   ·split <;> omega
  have ko : vB [.int a, .int b] = some [.inl a, .inl b] := rfl
  have k10 : ∀ s10 : Slot, 0 + 1 + 1 <= sizeLine /\ 10 < [a0, a1, a2, .fr (.int (m : Int)), .oT (us.map kvT), .fr (.int x), .fr (.int y), a7, .fr (.int c), .fr (.int z), s10, a11].length := fun _ => ⟨z2, by simp⟩
  have pre : rB [a0, a1, a2, .fr (.int (m : Int)), .oT (us.map kvT), s5, s6, a7, .fr (.int c), s9, s10, a11] = (ifS (XQ (blF (zc neF (vF 5) (vF 6))) (blF (zc neF gE (cF (.int 0))))) (ZQ 4 10 vE) nxF) [a0, a1, a2, .fr (.int (m : Int)), .oT (us.map kvT), .fr (.int x), .fr (.int y), a7, .fr (.int c), .fr (.int z), .fr (.tup [.int a, .int b]), a11] := by
   unfold rB
   simp only [zr, yJ, zR, zm, zA, yB, wL, g0c, g0b, g0a, mv', g0i, g0g, zt, d1, f8, d2, hx, hy, HW, ea, eb, ko, g0d, g0m, if_pos (k10 s10)]
   rw [if_pos (by have := k10 s10; simpa using this)]
   rfl
  have stay : rB [a0, a1, a2, .fr (.int (m : Int)), .oT (us.map kvT), s5, s6, a7, .fr (.int c), s9, s10, a11] = some (.nx [a0, a1, a2, .fr (.int (m : Int)), .oT (us.map kvT), .fr (.int x), .fr (.int y), a7, .fr (.int c), .fr (.int z), .fr (.tup [.int a, .int b]), a11]) -> ∃ us' s5' s6' s8' s9' s10', UJ m us' /\ Mr ts us' /\ us'.length <= 90 ∧
    yC (zu 8) rB ((c :: l).map D.int) [a0, a1, a2, .fr (.int m), .oT (us.map kvT), s5, s6, a7, s8, s9, s10, a11] = some (.nx [a0, a1, a2, .fr (.int m), .oT (us'.map kvT), s5', s6', a7, s8', s9', s10', a11]) := fun e0 => by
   obtain ⟨us', t5, t6, t8, t9, t10, g1, g2, g3, e⟩ := Qg hm (ts := ts) a0 a1 a2 a7 a11 l us (.fr (.int x)) (.fr (.int y)) (.fr (.int c)) (.fr (.int z)) (.fr (.tup [.int a, .int b])) hu hr (by omega)
   refine ⟨us', t5, t6, t8, t9, t10, g1, g2, g3, ?_⟩
   rw [g0f]
   unfold yC
   simp only [wj, g0a, g0i, g0g, e0]
   exact e
  by_cases c1 : x = y
  ·have ne : neF (.int x) (.int y) = some (.bl false) := by rw [ke, decide_eq_true c1]; rfl
   refine stay ?_
   rw [pre]
   simp only [wy, Qc, vO, zt, yB, g0c, g0b, g0a, ne, g1o, if_false, jK]
  ·have ne : neF (.int x) (.int y) = some (.bl true) := by rw [ke, decide_eq_false c1]; rfl
   obtain ⟨h1, h2, h3⟩ := hab c1
   have gv : gE [a0, a1, a2, .fr (.int (m : Int)), .oT (us.map kvT), .fr (.int x), .fr (.int y), a7, .fr (.int c), .fr (.int z), .fr (.tup [.int a, .int b]), a11] = some (.int (zi us a b)) := by
    unfold gE
    simp only [HV, yB, wL, g0c, g0b, g0a, ko, Mu h2]
   by_cases c2 : zi us a b = 0
   ·have n0 : neF (.int (zi us a b)) (.int 0) = some (.bl false) := by rw [ke, decide_eq_true c2]; rfl
    refine stay ?_
    rw [pre]
    simp only [wy, Qc, vO, zt, yB, wL, gv, g0c, g0b, g0a, ne, n0, if_true, g1o, if_false, jK]
   ·have n0 : neF (.int (zi us a b)) (.int 0) = some (.bl true) := by rw [ke, decide_eq_false c2]; rfl
    have gd := yT hu.good a b
    obtain ⟨v, v1, v2, v3⟩ := C4 gv (by omega)
    obtain ⟨p1, p2⟩ := C5 hu h1 h2 h3 v2
    have hzl : (us.map kvT).length < sizeLine := by rw [g0k]; exact wO (by omega)
    obtain ⟨us', t5, t6, t8, t9, t10, g1, g2, g3, e⟩ := Qg hm (ts := ts) a0 a1 a2 a7 a11 l (J4 us a b v) (.fr (.int x)) (.fr (.int y)) (.fr (.int c)) (.fr (.int z)) (.fr (.tup [.int a, .int b])) p1 (hr.put h2 v1) (by omega)
    refine ⟨us', t5, t6, t8, t9, t10, g1, g2, g3, ?_⟩
    rw [g0f]
    unfold yC
    simp only [wj, g0a, g0i, g0g]
    rw [pre]
    simp only [wy, Qc, vO, zt, yB, wL, gv, g0c, g0b, g0a, ne, n0, if_true, Kv, v3, ko, if_pos hzl, G8, g0i, g0g]
    exact e
noncomputable def tB : FS := vd 11 (tupF (za (zc ixD (vF 10) (cF (.int 0))) (za (zc ixD (vF 10) (cF (.int 1))) (za (vF 7) zw))))
theorem GX (a0 a1 a2 a3 a4 a5 a6 a8 a9 : Slot) : ∀ (l acc : List T3) (s7 s10 : Slot), acc.length + l.length <= 100 -> ∃ s7' s10',
  yC (qQ 2 (yg (zu 10) (yg (zu 7) jF))) tB (xA (l.map kvT)) [a0, a1, a2, a3, a4, a5, a6, s7, a8, a9, s10, .ol (acc.map tD)] = some (.nx [a0, a1, a2, a3, a4, a5, a6, s7', a8, a9, s10', .ol ((acc ++ l).map tD)])
 | [], acc, s7, s10, _ => ⟨s7, s10, by rw [g0t]; rfl⟩
 | u :: l, acc, s7, s10, hlen => by
  rw [g0d] at hlen
  obtain ⟨t7, t10, e⟩ := GX a0 a1 a2 a3 a4 a5 a6 a8 a9 l (acc ++ [u]) (.fr (.int u.2.2)) (.fr (.tup [.int u.1, .int u.2.1])) (by rw [g0h, g1h]; omega)
  refine ⟨t7, t10, ?_⟩
  have ei : xA ((u :: l).map kvT) = .tup [.tup [.int u.1, .int u.2.1], .int u.2.2] :: xA (l.map kvT) := rfl
  have zz : (acc.map tD).length < sizeLine := by rw [g0k]; exact wO (by omega)
  have z3 : 0 + 1 + 1 + 1 <= sizeLine := szl (by decide)
  have i0 : ixD (.tup [.int u.1, .int u.2.1]) (.int 0) = some (.int u.1) := ix0
  have i1 : ixD (.tup [.int u.1, .int u.2.1]) (.int 1) = some (.int u.2.1) := ix1
  rw [ei]
  unfold yC
  simp only [tB, YS, j8, wj, YT, g0d, g0m, Nat.reduceAdd, if_true, g0i, g0g, g0a, qr, jz, zm, zA, zt, yB, wL, g0c, g0b, i0, i1, if_pos z3, if_pos zz]
  unfold tB at e
  rw [g1b, g1u] at e
  rw [<- e, g1f]
  rfl
theorem GM (l : List D) (h : l.length <= 63) : Xq l (some 1) (some 64) = l.drop 1 := by
 have e1 : HT.sIx l.length 0 (some ((1 : Nat) : Int)) = min 1 l.length := HT.sIx_nat _ _ _
 have e2 : HT.sIx l.length l.length (some ((64 : Nat) : Int)) = min 64 l.length := HT.sIx_nat _ _ _
 unfold Xq
 rw [show (some (1 : Int)) = some ((1 : Nat) : Int) from rfl, show (some (64 : Int)) = some ((64 : Nat) : Int) from rfl, e1, e2, Nat.min_eq_right (show l.length <= 64 by omega)]
 cases l with
 | nil => rfl
 | cons a l => simp
theorem Q4 (ns : List Int) (hl : ns.length <= 63) : ∃ (n m : Nat) (ts us : List T3), 2 <= m /\ m <= n /\ n <= 6 /\ ts ∈ kW m /\ UJ m us /\ Mr ts us /\ us.length <= 90 /\ vH [.lst (ns.map D.int)] = some (.tup [zh n us, .int m]) := by
 obtain ⟨c, hc⟩ := Hw ns 0 (by omega)
 have hc' : uq [.lst (ns.map D.int), .int 0] = some (.int c) := hc
 obtain ⟨z, hz, _, mv⟩ := We c 1 (by omega)
 have mv' : xK [.int c, .int 1] = some (.int z) := mv
 have d5 := xq (i := z) (show (0 : Int) < 5 by decide)
 have f5 := wC (i := z) (show (0 : Int) < 5 by decide) (by decide)
 have f32 := wC (i := z) (show (0 : Int) < 32 by decide) (by decide)
 obtain ⟨n, hn⟩ : ∃ n : Nat, 2 + z % 5 = (n : Int) := ⟨(2 + z % 5).toNat, by omega⟩
 have dn := xq (i := z / 5) (show (0 : Int) < (n : Int) - 1 by omega)
 have q1 := Int.emod_nonneg (z / 5) (show (n : Int) - 1 ≠ 0 by omega)
 have q2 := Int.emod_lt_of_pos (z / 5) (show (0 : Int) < (n : Int) - 1 by omega)
 obtain ⟨m, hm⟩ : ∃ m : Nat, 2 + z / 5 % ((n : Int) - 1) = (m : Int) := ⟨(2 + z / 5 % ((n : Int) - 1)).toNat, by omega⟩
 have m2 : 2 <= m := by omega
 have mn : m <= n := by omega
 have n6 : n <= 6 := by omega
 obtain ⟨ts, tb, tv⟩ := Jd m (z / 32) m2 (by omega)
 have B := JO m2 (by omega) tb
 obtain ⟨s5, s6, s7, e1⟩ := W5 (.fr (.lst (ns.map D.int))) (.fr (.int z)) (.fr (.int n)) (.fr (.int m)) .no .no .no .no ts [] .no .no .no (by simpa using B.nd) (by have := B.ln; simp; omega)
 obtain ⟨us, t5, t6, t8, t9, t10, hu, hr, hlen, e2⟩ := Qg m2 (ts := ts) (.fr (.lst (ns.map D.int))) (.fr (.int z)) (.fr (.int n)) s7 .no (ns.drop 1) ts s5 s6 .no .no .no B.us (fun i j _ => by
  have g := yT B.us.good (i : Int) (j : Int)
  unfold Le
  omega) (by have := B.ln; rw [List.length_drop]; omega)
 obtain ⟨u7, u10, e3⟩ := GX (.fr (.lst (ns.map D.int))) (.fr (.int z)) (.fr (.int n)) (.fr (.int m)) .no t5 t6 t8 t9 us [] s7 t10 (by simp; omega)
 refine ⟨n, m, ts, us, m2, mn, n6, tb, hu, hr, hlen, ?_⟩
 have cu : Xq (ns.map D.int) (some 1) (some 64) = (ns.drop 1).map D.int := by rw [GM _ (by rw [g0k]; exact hl), List.map_drop]
 have z0 : 0 <= sizeLine := g2e _
 have z2 : 0 + 1 + 1 <= sizeLine := szl (by decide)
 have e1 : yC (qQ 3 (yg (zu 5) (yg (zu 6) (yg (zu 7) jF)))) pB1 (ts.map tD) [.fr (.lst (ns.map D.int)), .fr (.int z), .fr (.int n), .fr (.int m), .oT [], .no, .no, .no, .no, .no, .no, .no] = _ := e1
 have e3 : yC (qQ 2 (yg (zu 10) (yg (zu 7) jF))) tB (xA (us.map kvT)) [.fr (.lst (ns.map D.int)), .fr (.int z), .fr (.int n), .fr (.int m), .no, t5, t6, s7, t8, t9, t10, .ol []] = _ := e3
 rw [g0s] at e1 e3
 unfold pB1 at e1
 unfold rB gE vE gE at e2
 unfold tB at e3
 simp only [vH, Zf, yF, zQ, g0f, g0y, g0d, g0m, Nat.reduceAdd, Nat.reduceSub, g0e, g0v, g0s]
 rw [zr (F := xh 1 _), yJ]
 simp only [zR, zm, zA, yB, wL, g0b, g0c, g0a, hc', mv', g0i, g0g]
 rw [zr (F := xh 2 _), yJ]
 simp only [zt, yB, wL, g0b, g0c, g0a, d5, Qd, hn, g0i, g0g]
 rw [zr (F := xh 3 _), yJ]
 simp only [zt, yB, wL, g0b, g0c, g0a, f5, V6, dn, Qd, hm, g0i, g0g]
 rw [zr (F := GG 4), HU]
 simp only [g0a, g0i, g0g]
 rw [zr (F := Wn _ _ _), qq]
 simp only [zU, zR, zm, zA, zt, yB, wL, g0b, g0c, g0a, f32, tv, x5]
 rw [e1]
 simp only [g0a]
 rw [zr (F := Wn _ _ _), qq]
 simp only [zU, W0, Dr, wL, yB, g0b, g0a, cu, x5]
 rw [e2]
 simp only [g0a]
 rw [zr (F := VL 11 _), j9]
 simp only [jA, zA, g0a, g0m, if_pos z0, g0i, g0g]
 rw [zr (F := Jb 4 _ _), HQ]
 simp only [g0b, g0c, g0i, g0g]
 rw [e3]
 simp only [g0a, YU, Dq, g0b, g0c, g0i, g0g, yx, jz, zm, zA, yB, g0d, g0m, if_pos z2, yR]
 rfl
theorem FY (x y : Gd) : eqD (gD x) (gD y) = decide (x = y) := by
 obtain ⟨a, b⟩ := x
 obtain ⟨c, d⟩ := y
 by_cases h : a = c <;> by_cases h' : b = d <;> simp [gD, eqD, ZN, h, h']
theorem VA {α : Type} [DecidableEq α] (f : α -> D) (hf : ∀ x y, eqD (f x) (f y) = decide (x = y)) : ∀ r s : List α, ZN (r.map f) (s.map f) = decide (r = s)
 | [], [] => by simp [ZN]
 | [], y :: s => by simp [ZN]
 | x :: r, [] => by simp [ZN]
 | x :: r, y :: s => by
  simp only [g0f, ZN, hf, VA f hf r s]
  by_cases h : x = y <;> by_cases h' : r = s <;> simp [h, h']
theorem GB (r s : List Gd) : eqD (wz r) (wz s) = decide (r = s) := by
 unfold wz eqD
 exact VA gD FY r s
theorem GI (w : List Nat) : dep (y4 w) <= 100 := by
 have : uN (w.map fun (i : Nat) => D.int (i : Int)) <= 1 := qf fun d hd => by
  obtain ⟨x, _, rfl⟩ := g1r.mp hd
  exact g2e _
 unfold y4 dep
 omega
theorem V8 (m : Nat) : D.tup (yZ 0 (m : Int)) = y4 (g0u m) := by
 rw [ui]
 unfold y4 idx
 rw [g1d]
 rfl
theorem K6 {m p : Nat} (hm : 1 <= m) (hp : 1 <= p) (h : m * p <= 100) : BM (y4 (g0u m)) (.int (p : Int)) = some (y4 (qu m p)) := by
 obtain ⟨k, rfl⟩ : ∃ k, m = k + 1 := ⟨m - 1, by omega⟩
 have e : y4 (g0u (k + 1)) = .tup (.int 0 :: ((g0u k).map Nat.succ).map fun (i : Nat) => D.int (i : Int)) := by
  unfold y4
  rw [g1m, g0f]
  rfl
 have el : (D.int 0 :: ((g0u k).map Nat.succ).map fun (i : Nat) => D.int (i : Int)) = (g0u (k + 1)).map fun (i : Nat) => D.int (i : Int) := by
  rw [g1m, g0f]
  rfl
 rw [e]
 unfold BM
 dsimp only
 rw [if_pos ⟨by omega, by simpa using szl (n := (k + 1) * p) h⟩]
 rw [el, Int.toNat_natCast]
 unfold y4 qu
 rw [List.map_flatten, List.map_replicate]
theorem JQ {l : List D} (h : D.bl false ∈ l) (hl : ∀ d ∈ l, ∃ b, d = .bl b) : inD false (.bl false) (.lst l) = some (.bl true) := by
 have hd : uN l <= 100 := qf fun d hd => by
  obtain ⟨b, rfl⟩ := hl d hd
  exact g2e _
 show (if uN l <= 100 then some (D.bl (xor false (l.any fun d => eqD d (.bl false)))) else none) = _
 have e : (l.any fun d => eqD d (.bl false)) = true := g2t.mpr ⟨_, h, vU _⟩
 rw [if_pos hd, e]
 rfl
theorem law_true (ns : List Int) (hl : ns.length <= 63) : g_law [.lst (ns.map D.int)] = some (.bl true) := by
 obtain ⟨n, m, ts, us, m2, mn, n6, tb, U, hr, hlen, hv⟩ := Q4 ns hl
 have B := JO m2 (by omega) tb
 have hg := U.good
 have up := MI m2 mn B U hr
 have ev := Wq up (M0 m2 B U hr) n6 hlen
 obtain ⟨c, hc⟩ := Hw ns 0 (by omega)
 have hc' : uq [.lst (ns.map D.int), .int 0] = some (.int c) := hc
 obtain ⟨z, hz, _, mv⟩ := We c 4 (by omega)
 have mv' : xK [.int c, .int 4] = some (.int z) := mv
 have f24 := wC (i := 24) (show (0 : Int) < (m : Int) by omega) (by have := m2; omega)
 have q0 : (24 : Int) / (m : Int) = ((24 / m : Nat) : Int) := by simp
 have q1 : 1 <= 24 / m := by
  have : m = 2 \/ m = 3 \/ m = 4 \/ m = 5 \/ m = 6 := by omega
  rcases this with rfl | rfl | rfl | rfl | rfl <;> decide
 have q2 : m * (24 / m) <= 24 := Nat.mul_div_le 24 m
 rw [q0] at f24
 have dm := xq (i := z) (show (0 : Int) < ((24 / m : Nat) : Int) by omega)
 have r1 := Int.emod_nonneg z (show ((24 / m : Nat) : Int) ≠ 0 by omega)
 have r2 := Int.emod_lt_of_pos z (show (0 : Int) < ((24 / m : Nat) : Int) by omega)
 obtain ⟨p, hp⟩ : ∃ p : Nat, 1 + z % ((24 / m : Nat) : Int) = (p : Int) := ⟨(1 + z % ((24 / m : Nat) : Int)).toNat, by omega⟩
 have p1 : 1 <= p := by omega
 have p2 : p <= 24 / m := by omega
 have mp : m * p <= 24 := g1x (Nat.mul_le_mul_left m p2) q2
 have sh := Qk mn n6 B U hr p2
 have hw : InW n (qu m p) := Ql mn
 have wl : (qu m p).length = m * p := by rw [KC, Nat.mul_comm]
 have sv := Wk n hg n6 hw (by omega)
 have lv := Us n hg n6 hw (by omega)
 have al := (YO hg hw).mpr sh
 have su : WX (xC us n [] (qu m p)) = ((m * p : Nat) : Int) := by
  rw [(X0 _).2.1.mpr al, wx, wl]
 rw [al] at sv
 rw [su] at lv
 have mu := K6 (by omega) p1 (show m * p <= 100 by omega)
 have mi : u5 (.int (m : Int)) (.int (p : Int)) = some (.int ((m * p : Nat) : Int)) := by
  rw [Int.natCast_mul]
  exact xR (vc (by omega) (by omega))
 let rw1 : Int -> Bool := fun i => eqD (wz (yf (zf us) (qu m p) (ye n i.toNat))) (wz (ye n i.toNat))
 have cm := kN (f := zc eqF (zN kF (za (vF 1) (za (vF 2) (za (zN xg (za (vF 1) (za (vF 0) zw))) zw)))) (zN xg (za (vF 1) (za (vF 0) zw)))) (C := [.fr (zh n us), .fr (y4 (qu m p))]) (ι := D.int) (φ := fun i => .bl (rw1 i)) (idx m) .no (fun i hi => by
  rw [y6] at hi
  have s1 := Zv n us i.toNat (by omega)
  rw [show ((i.toNat : Nat) : Int) = i by omega] at s1
  have s2 := Va n hg (w := qu m p) (r := ye n i.toNat) (by omega) (zg _ _) hw
  have s3 : eqF (wz (yf (zf us) (qu m p) (ye n i.toNat))) (wz (ye n i.toNat)) = some (.bl (rw1 i)) := by
   unfold eqF
   rw [if_pos (Cw _)]
  simp only [zt, zR, zm, zA, yB, g0b, g0c, g0a, s1, s2, s3])
 have last : rw1 ((m : Int) - 1) = false := by
  show eqD _ _ = false
  rw [GB, decide_eq_false_iff_not, show ((m : Int) - 1).toNat = m - 1 by omega]
  intro e
  obtain ⟨k, rfl⟩ : ∃ k, m = k + 1 := ⟨m - 1, by omega⟩
  obtain ⟨r, rfl⟩ : ∃ r, p = r + 1 := ⟨p - 1, by omega⟩
  have e2 : qu (k + 1) (r + 1) = (qu (k + 1) r ++ g0u k) ++ [k] := by
   rw [W9, g1b, <- g3i]
   congr 1
   simp [qu]
  rw [show k + 1 - 1 = k by omega] at e
  rw [e2] at sh e
  have dn := Xb hg sh
  rw [e] at dn
  have s1 : Sh us n [k] := Sh.cut (a := qu (k + 1) r ++ g0u k) (b := [k]) (c := []) (by simpa using sh)
  have upr : NNr (yf (zf us) [] (ye n k)) := Sh.up (u := []) (s := k) hg s1
  have nz := uU (ts := us) (n := n) (w := []) (s := k) (fun _ h => by cases h) (by omega)
  exact upr.notP nz dn
 have inb : inD false (.bl false) (.lst ((idx m).map fun i => D.bl (rw1 i))) = some (.bl true) := JQ (g1r.mpr ⟨(m : Int) - 1, y6.mpr (by omega), by rw [last]⟩) fun d hd => by
  obtain ⟨i, _, rfl⟩ := g1r.mp hd
  exact ⟨_, rfl⟩
 have hz2 : ((idx m).map D.int).length <= sizeLine := by rw [g0k, vT]; exact szl (by omega)
 have ra : uS [.int (m : Int)] = some ((idx m).map D.int) := by rw [vy (by omega) (by omega), ui]
 have z2 : 0 + 1 + 1 <= sizeLine := szl (by decide)
 have tr : ∀ (a b : Slot) (r : Rho), Dc (za (vF 2) zw) (a :: b :: .fr (.int (m : Int)) :: r) = some (y4 (g0u m)) := fun a b r => by
  unfold Dc Qe
  simp only [zm, yB, g0b, g0c, zA, g0a]
  rw [if_pos (by omega), <- V8]
  rfl
 have i0 : ixD (y4 (g0u m)) (.int 0) = some (.int 0) := by
  obtain ⟨k, rfl⟩ : ∃ k, m = k + 1 := ⟨m - 1, by omega⟩
  unfold y4
  rw [g1m, g0f]
  exact ix0
 have ty : VY (tyN (y4 (g0u m))) "tuple" = true := rfl
 have h0 : ixD (zh n us) (.int 0) = some (.int n) := by unfold zh; exact ix0
 have h1 : ixD (zh n us) (.int 1) = some (.lst (us.map tD)) := by unfold zh; exact ix1
 have hd : D.tup [.int n, .lst (us.map tD)] = zh n us := rfl
 have ne1 : neF (y4 (g0u m)) (y4 (g0u m)) = some (.bl false) := QH (GI _)
 have ne2 : neF (.int ((m * p : Nat) : Int)) (.int ((m * p : Nat) : Int)) = some (.bl false) := QH (g2e _)
 have eqh : eqF (zh n us) (zh n us) = some (.bl true) := Jh (Jv n us)
 have wv := UV 0
 simp only [g_law, CV, yF, zQ, g0f, g0y, g0d, g0m, Nat.reduceAdd, Nat.reduceSub, g0e, g0v, g0s]
 rw [zr (F := MG _ _), Ds]
 simp only [zR, zm, zA, yB, g0b, g0c, g0a, hv, YS, j8, wj, YT, g0d, g0m, Nat.reduceAdd, if_true, g0i, g0g]
 rw [zr (F := xh 3 _), yJ]
 simp only [jz, zm, zA, zt, yB, wL, zY, HP, g0b, g0c, g0a, h0, h1, g0z, g0d, g0m, if_pos z2, hd, g0i, g0g]
 rw [zr (F := xh 4 _), yJ]
 simp only [zR, zm, zA, yB, g0b, g0c, g0a, ev, g0i, g0g]
 rw [zr (F := ifS _ _ _), wy]
 simp only [Dl, G3, vO, X2, zt, zR, zm, zA, yB, wL, g0b, g0c, g0a, Dp, ty, Bool.not_true, g1o, if_false, tr, ne1, i0, wv, jK]
 rw [zr (F := xh 5 _), yJ]
 simp only [zt, zR, zm, zA, yB, wL, g0b, g0c, g0a, hc', mv', f24, dm, Qd, hp, g0i, g0g]
 rw [zr (F := xh 6 _), yJ]
 simp only [zt, yB, g0b, g0c, g0a, mu, g0i, g0g]
 rw [zr (F := ifS _ _ _), wy]
 simp only [Dl, vO, zt, zR, zm, zA, yB, wL, g0b, g0c, g0a, sv, HN, decide_true, Bool.not_true, g1o, if_false, lv, mi, ne2, jK]
 rw [zr (F := xh 7 _), yJ]
 simp only [zY, xG, Zy, zm, zA, yB, g0b, g0c, g0a, ra, if_pos hz2, xQ, vx, g0f, g0y, g0e, g0v, g0s, cm, g0z, g0i, g0g]
 simp only [yx, G4, zt, yB, wL, g0b, g0c, g0a, inb, eqh, if_true, yR]
end Pk64
def PySem.W.Fast.tw17933234369752596350 := 0
def PySem.W.Fast.tw16017425231976979041 := 0
def PySem.W.Fast.tw6175548132728995971 := 0
def PySem.W.Fast.tw16937782012264711219 := 0
def PySem.W.Fast.tw2017766614481683367 := 0
def PySem.W.Fast.tw15096820725449800854 := 0
open PySem PySem.W PyProof.Rows FL L2 in
set_option maxRecDepth 100000 in
set_option maxHeartbeats 0 in
theorem PySem.Challenge.cw_mirrorhouse_k64_whole_powers_of_endless_holds : PySem.Challenge.rw_mirrorhouse_k64_whole_powers_of_endless.Holds := by
 w_on; refine holds_law (by kernel_rfl) fun said => ?_; k_head; (case hw => w_witness2)
 k_fill
 refine L2.walk_ofK (l := PySem.Challenge.rw_mirrorhouse_k64_whole_powers_of_endless) (n := 63) (k := 9) (x := "_law_script") (CX := CX0) (sp := fun K => FL.spF K 1 Pk64.g_law) rfl (by decide) rfl ⟨rfl, by decide, by decide⟩ (fun w h Y => PySem.W.kIn_of Y) ?F (fun K H a ns hl _ hS => FL.law_sp hS (Pk64.law_true ns hl)) (fun _ _ _ _ z => z)
 case F =>
  intro w mg fa h KX G hmg
  refine' Pk64.all_mk KX G hmg ?a0 ?l0 ?c0 ?k0 ?a1 ?l1 ?c1 ?k1 ?a2 ?l2 ?c2 ?k2 ?a3 ?l3 ?c3 ?k3 ?a4 ?l4 ?c4 ?k4 ?a5 ?l5 ?c5 ?k5 ?a6 ?l6 ?c6 ?k6 ?a7 ?l7 ?c7 ?k7 ?a8 ?l8 ?c8 ?k8 ?a9 ?l9 ?c9 ?k9 ?a10 ?l10 ?c10 ?k10 ?a11 ?l11 ?c11 ?k11 ?a12 ?l12 ?c12 ?k12 ?a13 ?l13 ?c13 ?k13 ?a14 ?l14 ?c14 ?k14 ?a15 ?l15 ?c15 ?k15 ?a16 ?l16 ?c16 ?k16 ?a17 ?l17 ?c17 ?k17 ?a18 ?l18 ?c18 ?k18 ?a19 ?l19 ?c19 ?k19 ?a20 ?l20 ?c20 ?k20 ?a21 ?l21 ?c21 ?k21 ?a22 ?l22 ?c22 ?k22 ?a23 ?l23 ?c23 ?k23 ?a24 ?l24 ?c24 ?k24 ?a25 ?l25 ?c25 ?k25 ?a26 ?l26 ?c26 ?k26 ?a27 ?l27 ?c27 ?k27 ?a28 ?l28 ?c28 ?k28 ?a29 ?l29 ?c29 ?k29 ?a30 ?l30 ?c30 ?k30 ?a31 ?l31 ?c31 ?k31 ?a32 ?l32 ?c32 ?k32 ?a33 ?l33 ?c33 ?k33 ?a34 ?l34 ?c34 ?k34 ?a35 ?l35 ?c35 ?k35 ?a36 ?l36 ?c36 ?k36 ?a37 ?l37 ?c37 ?k37 ?b_all ?b_bool ?b_enumerate ?b_int ?b_isinstance ?b_len ?b_list ?b_max ?b_min ?b_range ?b_reversed ?b_sorted ?b_sum ?b_tuple ?b_zip ?q_COMMON_TURN ?q_NOT_TOLD ?q_NOUGHT ?r_NOUGHT ?q_NO_KIND ?q_ONE ?r_ONE ?q_PULLS_BELOW_NOUGHT ?r_PULLS_BELOW_NOUGHT ?r_PULLS_BELOW_NOUGHT_0 ?r_PULLS_BELOW_NOUGHT_1 ?r_PULLS_BELOW_NOUGHT_2 ?r_PULLS_BELOW_NOUGHT_3 ?r_PULLS_BELOW_NOUGHT_4 ?r_PULLS_BELOW_NOUGHT_5 ?q_RARE_CHAINS ?r_RARE_CHAINS ?r_RARE_CHAINS_0 ?r_RARE_CHAINS_1 ?r_RARE_CHAINS_2 ?r_RARE_CHAINS_3 ?r_RARE_CHAINS_4 ?kr_y_RARE_CHAINS ?kr_z_RARE_CHAINS_0 ?kr_z_RARE_CHAINS_1 ?kr_z_RARE_CHAINS_2 ?kr_z_RARE_CHAINS_3 ?kr_z_RARE_CHAINS_4
  (case a0 => k_is)
  (case l0 => k_is)
  (case c0 => k_is)
  (case k0 => k_is)
  (case a1 => k_is)
  (case l1 => k_is)
  (case c1 => k_is)
  (case k1 => k_is)
  (case a2 => k_is)
  (case l2 => k_is)
  (case c2 => k_is)
  (case k2 => k_is)
  (case a3 => k_is)
  (case l3 => k_is)
  (case c3 => k_is)
  (case k3 => k_is)
  (case a4 => k_is)
  (case l4 => k_is)
  (case c4 => k_is)
  (case k4 => k_is)
  (case a5 => k_is)
  (case l5 => k_is)
  (case c5 => k_is)
  (case k5 => k_is)
  (case a6 => k_is)
  (case l6 => k_is)
  (case c6 => k_is)
  (case k6 => k_is)
  (case a7 => k_is)
  (case l7 => k_is)
  (case c7 => k_is)
  (case k7 => k_is)
  (case a8 => k_is)
  (case l8 => k_is)
  (case c8 => k_is)
  (case k8 => k_is)
  (case a9 => k_is)
  (case l9 => k_is)
  (case c9 => k_is)
  (case k9 => k_is)
  (case a10 => k_is)
  (case l10 => k_is)
  (case c10 => k_is)
  (case k10 => k_is)
  (case a11 => k_is)
  (case l11 => k_is)
  (case c11 => k_is)
  (case k11 => k_is)
  (case a12 => k_is)
  (case l12 => k_is)
  (case c12 => k_is)
  (case k12 => k_is)
  (case a13 => k_is)
  (case l13 => k_is)
  (case c13 => k_is)
  (case k13 => k_is)
  (case a14 => k_is)
  (case l14 => k_is)
  (case c14 => k_is)
  (case k14 => k_is)
  (case a15 => k_is)
  (case l15 => k_is)
  (case c15 => k_is)
  (case k15 => k_is)
  (case a16 => k_is)
  (case l16 => k_is)
  (case c16 => k_is)
  (case k16 => k_is)
  (case a17 => k_is)
  (case l17 => k_is)
  (case c17 => k_is)
  (case k17 => k_is)
  (case a18 => k_is)
  (case l18 => k_is)
  (case c18 => k_is)
  (case k18 => k_is)
  (case a19 => k_is)
  (case l19 => k_is)
  (case c19 => k_is)
  (case k19 => k_is)
  (case a20 => k_is)
  (case l20 => k_is)
  (case c20 => k_is)
  (case k20 => k_is)
  (case a21 => k_is)
  (case l21 => k_is)
  (case c21 => k_is)
  (case k21 => k_is)
  (case a22 => k_is)
  (case l22 => k_is)
  (case c22 => k_is)
  (case k22 => k_is)
  (case a23 => k_is)
  (case l23 => k_is)
  (case c23 => k_is)
  (case k23 => k_is)
  (case a24 => k_is)
  (case l24 => k_is)
  (case c24 => k_is)
  (case k24 => k_is)
  (case a25 => k_is)
  (case l25 => k_is)
  (case c25 => k_is)
  (case k25 => k_is)
  (case a26 => k_is)
  (case l26 => k_is)
  (case c26 => k_is)
  (case k26 => k_is)
  (case a27 => k_is)
  (case l27 => k_is)
  (case c27 => k_is)
  (case k27 => k_is)
  (case a28 => k_is)
  (case l28 => k_is)
  (case c28 => k_is)
  (case k28 => k_is)
  (case a29 => k_is)
  (case l29 => k_is)
  (case c29 => k_is)
  (case k29 => k_is)
  (case a30 => k_is)
  (case l30 => k_is)
  (case c30 => k_is)
  (case k30 => k_is)
  (case a31 => k_is)
  (case l31 => k_is)
  (case c31 => k_is)
  (case k31 => k_is)
  (case a32 => k_is)
  (case l32 => k_is)
  (case c32 => k_is)
  (case k32 => k_is)
  (case a33 => k_is)
  (case l33 => k_is)
  (case c33 => k_is)
  (case k33 => k_is)
  (case a34 => k_is)
  (case l34 => k_is)
  (case c34 => k_is)
  (case k34 => k_is)
  (case a35 => k_is)
  (case l35 => k_is)
  (case c35 => k_is)
  (case k35 => k_is)
  (case a36 => k_is)
  (case l36 => k_is)
  (case c36 => k_is)
  (case k36 => k_is)
  (case a37 => k_is)
  (case l37 => k_is)
  (case c37 => k_is)
  (case k37 => k_is)
  (case b_all => k_is)
  (case b_bool => k_is)
  (case b_enumerate => k_is)
  (case b_int => k_is)
  (case b_isinstance => k_is)
  (case b_len => k_is)
  (case b_list => k_is)
  (case b_max => k_is)
  (case b_min => k_is)
  (case b_range => k_is)
  (case b_reversed => k_is)
  (case b_sorted => k_is)
  (case b_sum => k_is)
  (case b_tuple => k_is)
  (case b_zip => k_is)
  (case q_COMMON_TURN => k_is)
  (case q_NOT_TOLD => k_is)
  (case q_NOUGHT => k_is)
  (case r_NOUGHT => k_is)
  (case q_NO_KIND => k_is)
  (case q_ONE => k_is)
  (case r_ONE => k_is)
  (case q_PULLS_BELOW_NOUGHT => k_is)
  (case r_PULLS_BELOW_NOUGHT => k_is)
  (case r_PULLS_BELOW_NOUGHT_0 => k_is)
  (case r_PULLS_BELOW_NOUGHT_1 => k_is)
  (case r_PULLS_BELOW_NOUGHT_2 => k_is)
  (case r_PULLS_BELOW_NOUGHT_3 => k_is)
  (case r_PULLS_BELOW_NOUGHT_4 => k_is)
  (case r_PULLS_BELOW_NOUGHT_5 => k_is)
  (case q_RARE_CHAINS => k_is)
  (case r_RARE_CHAINS => k_is)
  (case r_RARE_CHAINS_0 => k_is)
  (case r_RARE_CHAINS_1 => k_is)
  (case r_RARE_CHAINS_2 => k_is)
  (case r_RARE_CHAINS_3 => k_is)
  (case r_RARE_CHAINS_4 => k_is)
  (case kr_y_RARE_CHAINS => kernel_rfl)
  (case kr_z_RARE_CHAINS_0 => kernel_rfl)
  (case kr_z_RARE_CHAINS_1 => kernel_rfl)
  (case kr_z_RARE_CHAINS_2 => kernel_rfl)
  (case kr_z_RARE_CHAINS_3 => kernel_rfl)
  (case kr_z_RARE_CHAINS_4 => kernel_rfl)
