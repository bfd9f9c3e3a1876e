import PyProof.Rows.All
import Wide.All
import OpenK.AllK
import Wide.FinOn
import PyProof.EqAt
import PyProof.EqKinds
import PyProof.TupleCall
import PyProof.ListMulAny
import Lean
import PySem.Challenge.RW_mirrorhouse_k03_numbers_shown
set_option Elab.async false
set_option linter.all false
set_option maxRecDepth 100000
namespace L2
open PySem PySem.Spec PyProof.Rows

/-- a key: an int or a str -/
abbrev Key := Sum Int Str
def keyIs : Key → Value → Bool
  | .inl k, v => Value.isInt k v
  | .inr x, v => Value.isStrOf x v
def keyH (w : World) : Key → Int
  | .inl k => hashInt k
  | .inr x => hashStr w x
theorem keyIs_shape : ∀ {k : Key} {v : Value}, keyIs k v = true → (∃ i t, k = Sum.inl i ∧ v = Value.int i t) ∨ (∃ x t, k = Sum.inr x ∧ v = Value.str x t)
  | .inl i, v, h => by
    obtain ⟨t, e⟩ := Value.isInt_shape (k := i) (v := v) h
    exact .inl ⟨i, t, rfl, e⟩
  | .inr x, v, h => by
    obtain ⟨t, e⟩ := Value.isStrOf_shape (x := x) (v := v) h
    exact .inr ⟨x, t, rfl, e⟩
theorem key_ll (a b : Int) : decide ((Sum.inl a : Key) = Sum.inl b) = (a == b) := by
  by_cases e : a = b
  · subst e; simp
  · have h : ¬ (Sum.inl a : Key) = Sum.inl b := fun q => e (Sum.inl.inj q)
    rw [decide_eq_false h]
    exact (beq_eq_false_iff_ne.mpr e).symm
theorem key_rr (a b : Str) : decide ((Sum.inr a : Key) = Sum.inr b) = decide (a = b) := by
  by_cases e : a = b
  · subst e; simp
  · have h : ¬ (Sum.inr a : Key) = Sum.inr b := fun q => e (Sum.inr.inj q)
    rw [decide_eq_false h, decide_eq_false e]
theorem key_lr (a : Int) (b : Str) : decide ((Sum.inl a : Key) = Sum.inr b) = false := decide_eq_false (fun q => nomatch q)
theorem key_rl (a : Str) (b : Int) : decide ((Sum.inr a : Key) = Sum.inl b) = false := decide_eq_false (fun q => nomatch q)

def mixKind (prog : Program) (w : World) : PySem.KeyKind prog w Key where
  is := keyIs
  hash := keyH w
  inj := fun v a b ha hb => by
    rcases keyIs_shape ha with ⟨i, t, rfl, rfl⟩ | ⟨x, t, rfl, rfl⟩
    · rcases keyIs_shape hb with ⟨j, u, rfl, e⟩ | ⟨y, u, rfl, e⟩
      · injection e with e1 _; rw [e1]
      · exact nomatch e
    · rcases keyIs_shape hb with ⟨j, u, rfl, e⟩ | ⟨y, u, rfl, e⟩
      · exact nomatch e
      · injection e with e1 _; rw [e1]
  byValue := fun k v h => by
    rcases keyIs_shape h with ⟨i, t, rfl, rfl⟩ | ⟨x, t, rfl, rfl⟩ <;> rfl
  pyHash := fun hv h => by
    rcases keyIs_shape hv with ⟨i, t, rfl, rfl⟩ | ⟨x, t, rfl, rfl⟩
    · exact wpAny_pyHash_int h
    · exact wpAny_pyHash_str h
  eqBool := fun hu hv h => by
    rcases keyIs_shape hu with ⟨i, t, rfl, rfl⟩ | ⟨x, t, rfl, rfl⟩
    · rcases keyIs_shape hv with ⟨j, u, rfl, rfl⟩ | ⟨y, u, rfl, rfl⟩
      · rw [key_ll] at h; exact wpAny_eqBool_int h
      · rw [key_lr] at h; exact SeqAt.EqAt.int_str i t y u _ _ _ _ h
    · rcases keyIs_shape hv with ⟨j, u, rfl, rfl⟩ | ⟨y, u, rfl, rfl⟩
      · rw [key_rl] at h; exact SeqAt.EqAt.str_int x t j u _ _ _ _ h
      · rw [key_rr] at h; exact wpAny_eqBool_str h
  «strs» := fun k x t v h => by
    rcases keyIs_shape h with ⟨i, u, rfl, e⟩ | ⟨y, u, rfl, e⟩
    · exact nomatch e
    · injection e with e1 _
      subst e1
      cases v <;> rfl

end L2

namespace L2
open PySem PySem.Spec PyProof.Rows

/-- a value, without the heap -/
inductive V where
  | non | bl (b : Bool) | int (i : Int) | str (x : Str) | byt (b : Array UInt8) | flt (b : UInt64) | ref (a : Addr) | ty (n : String)
  deriving DecidableEq

def RelV : V → Value → Prop
  | .non, u => u = Value.none
  | .bl b, u => u = Value.bool b
  | .int i, u => ∃ t, u = Value.int i t
  | .str x, u => ∃ t, u = Value.str x t
  | .byt b, u => ∃ t, u = Value.bytes b t
  | .flt b, u => ∃ t, u = Value.float b t
  | .ref a, u => u = Value.ref a
  | .ty n, u => u = Value.type n

abbrev Vals : List V → List Value → Prop := Paired RelV
theorem Vals.length {xs : List V} {us : List Value} (r : Vals xs us) : xs.length = us.length := Paired.length r
theorem Vals.get : ∀ {xs : List V} {us : List Value} {i : Nat} {x : V}, Vals xs us → xs[i]? = some x → ∃ u, us[i]? = some u ∧ RelV x u
  | _, _, _, _, .nil, e => by simp at e
  | _, _, 0, _, .cons r _, e => by simp at e; subst e; exact ⟨_, rfl, r⟩
  | _, _, i + 1, x, .cons _ t, e => by
    obtain ⟨u, h1, h2⟩ := Vals.get (i := i) (x := x) t (by simpa using e)
    exact ⟨u, by simpa using h1, h2⟩
theorem Vals.set {x : V} {u : Value} (r : RelV x u) : ∀ {xs : List V} {us : List Value} (i : Nat), Vals xs us → Vals (xs.set i x) (us.set i u)
  | _, _, _, .nil => .nil
  | _, _, 0, .cons _ t => .cons r t
  | _, _, i + 1, .cons q t => .cons q (Vals.set r i t)
theorem Vals.append : ∀ {xs ys : List V} {us ws : List Value}, Vals xs us → Vals ys ws → Vals (xs ++ ys) (us ++ ws)
  | _, _, _, _, .nil, s => s
  | _, _, _, _, .cons r t, s => .cons r (Vals.append t s)
theorem Vals.take : ∀ {xs : List V} {us : List Value} (n : Nat), Vals xs us → Vals (xs.take n) (us.take n)
  | _, _, 0, _ => .nil
  | _, _, _ + 1, .nil => .nil
  | _, _, n + 1, .cons r t => .cons r (Vals.take n t)
theorem Vals.drop : ∀ {xs : List V} {us : List Value} (n : Nat), Vals xs us → Vals (xs.drop n) (us.drop n)
  | _, _, 0, r => r
  | _, _, _ + 1, .nil => .nil
  | _, _, n + 1, .cons _ t => Vals.drop n t
def RelO : Option V → Option Value → Prop
  | some v, some u => RelV v u
  | none, none => True
  | _, _ => False
def KV {κ : Type} : List (κ × V) → List (κ × Value) → Prop := Paired fun (p : κ × V) (q : κ × Value) => p.1 = q.1 ∧ RelV p.2 q.2

/-- a key of a dict (00_mix): an int or a text -/
def kV : Key → V
  | .inl i => .int i
  | .inr x => .str x

/-- what stands at a tracked address -/
inductive HO where
  /-- a list -/
  | lst (xs : List V)
  /-- a tuple (never changes) -/
  | tup (xs : List V)
  /-- a dict whose keys are ints and texts; one whose keys are tuples of ints and texts (the empty one is both) -/
  | dK (kvs : List (Key × V)) | dT (kvs : List (List Key × V))
  /-- a set of ints: its members, its size -/
  | set (S : Int → Bool) (n : Nat)
  /-- an instance of the class at C, its dict at dx, its attributes -/
  | ins (C dx : Addr) (fs : List (Str × V))
  /-- the dict of the instance at x -/
  | own (x : Addr)
  /-- the dict of an exception -/
  | xd (fs : List (Str × V))
  /-- a bound method, f of x -/
  | met (f x : Addr)
  /-- a range object lo, lo + 1, .. below hi -/
  | rng (lo hi : Int)
  /-- a thing that is known to the object (the script; a dict while a loop walks it): read, never written while it is so -/
  | frz (o : Obj) (u : HO)
  /-- a code object's table -/
  | tbl (ps : Array Value)
  /-- any other thing, by what is true of its one object (a def of one's own: SetO a S n := HO.ext fun h => ..) -/
  | ext (φ : Heap → Prop)

abbrev Hp := Addr → Option HO
def upd (H : Hp) (a : Addr) (o : HO) : Hp := fun b => if b = a then some o else H b
theorem upd_same {H : Hp} {a : Addr} {o : HO} : upd H a o a = some o := by unfold upd; rw [if_pos rfl]
theorem upd_ne {H : Hp} {a b : Addr} {o : HO} (h : b ≠ a) : upd H a o b = H b := by unfold upd; rw [if_neg h]
theorem ne_of_none {H : Hp} {a b : Addr} {o : HO} (h : H a = some o) (h' : H b = none) : a ≠ b := by
  intro e; subst e; rw [h] at h'; cases h'

section
variable (P : Program) (w : World)
def ObjOk (H : Hp) (h : Heap) (a : Addr) : HO → Prop
  | .lst xs => xs.length ≤ sizeLine ∧ ∃ (its : List Value) (n : Nat), Vals xs its ∧ h.get? a = some { cls := .type "list", data := .seq its.toArray n }
  | .tup xs => xs.length ≤ sizeLine ∧ ∃ its : List Value, Vals xs its ∧ IsTup h a its.toArray
  | .dK kvs => kvs.length ≤ sizeLine ∧ (a == sysModules) = false ∧ ∃ vs, KV kvs vs ∧ h.DictOf (mixKind P w) a vs
  | .dT kvs => kvs.length ≤ sizeLine ∧ (a == sysModules) = false ∧ ∃ xs : List (List Key × Addr × Value),
      Paired (fun (p : List Key × V) (q : List Key × Addr × Value) => p.1 = q.1 ∧ H q.2.1 = some (.tup (p.1.map kV)) ∧ RelV p.2 q.2.2) kvs xs ∧
      ∃ o es ep, h.get? a = some o ∧ o.ExactDict ∧ o.data = .dict es ep ∧ es.toList = xs.map (entryOfKey (tupleKind (mixKind P w))) ∧ (xs.map (·.1)).Nodup
  | .set S n => h.SetOf (intKind P w) a S n
  | .ins C dx fs => H dx = some (.own a) ∧ fs.length ≤ 1000 ∧ dx ≠ a ∧ h.get? a = some (PySem.W.instObj C dx) ∧
      ∃ mA, h.Ns1 dx mA ∧ (∀ f, RelO (fs.lookup f) (mA f)) ∧ PySem.Within mA (fs.map (·.1))
  | .own _ => ∃ o, h.get? a = some o
  | .xd fs => ∃ mA, h.Ns1 a mA ∧ ∀ f, RelO (fs.lookup f) (mA f)
  | .rng lo hi => ∃ t u v, h.get? a = some { cls := .type "range", data := .fields #[.int lo t, .int hi u, .int 1 v] }
  | .frz o u => h.get? a = some o ∧ ObjOk H h a u
  | .tbl ps => h.get? a = some { cls := .none, data := .fields ps }
  | .met f x => h.get? a = some (PySem.W.methodObj (.ref f) (.ref x))
  | .ext φ => φ h ∧ (∃ o, h.get? a = some o) ∧ ∀ h1 h2 : Heap, φ h1 → (∀ o, h1.get? a = some o → h2.get? a = some o) → φ h2
/-- the abstract heap is held -/
def HOk (H : Hp) (h : Heap) : Prop := ∀ a o, H a = some o → ObjOk P w H h a o
end

section
variable {P : Program} {w : World} {H H' : Hp} {h h' : Heap} {a : Addr} {o : HO}
theorem ObjOk.lt (x : ObjOk P w H h a o) : a < h.objs.size := by
  cases o with
  | lst xs => obtain ⟨_, _, _, _, e⟩ := x; exact Heap.lt_size e
  | tup xs => obtain ⟨_, _, _, p⟩ := x; exact p.lt
  | dK kvs => obtain ⟨_, _, _, _, o, _, _, e, _⟩ := x; exact Heap.lt_size e
  | dT kvs => obtain ⟨_, _, _, _, o, _, _, e, _⟩ := x; exact Heap.lt_size e
  | set S n => obtain ⟨o, _, _, _, e, _⟩ := x; exact Heap.lt_size e
  | ins C dx fs => obtain ⟨_, _, _, e, _⟩ := x; exact Heap.lt_size e
  | own y => obtain ⟨_, e⟩ := x; exact Heap.lt_size e
  | xd fs => obtain ⟨_, ⟨_, _, _, e, _⟩, _⟩ := x; exact Heap.lt_size e
  | rng lo hi => obtain ⟨_, _, _, e⟩ := x; exact Heap.lt_size e
  | frz ob u => obtain ⟨e, _⟩ := x; exact Heap.lt_size e
  | tbl ps => exact Heap.lt_size (show h.get? a = some _ from x)
  | met f y => exact Heap.lt_size (show h.get? a = some _ from x)
  | ext φ => obtain ⟨_, ⟨_, e⟩, _⟩ := x; exact Heap.lt_size e
theorem Paired.mapP {α β : Type} {F G : α → β → Prop} : ∀ {l₁ : List α} {l₂ : List β}, Paired F l₁ l₂ → (∀ a b, F a b → G a b) → Paired G l₁ l₂
  | _, _, .nil, _ => .nil
  | _, _, .cons r t, f => .cons (f _ _ r) (Paired.mapP t f)
/-- what an object's description leans on: its own object, its own dict, the tuples -/
theorem ObjOk.stay (x : ObjOk P w H h a o) (k : ∀ b u, (b = a ∨ H b = some (.own a)) → h.get? b = some u → h'.get? b = some u)
    (ho : ∀ b, H b = some (.own a) → H' b = some (.own a)) (ht : ∀ b xs, H b = some (.tup xs) → H' b = some (.tup xs)) : ObjOk P w H' h' a o := by
  induction o with
  | lst xs => obtain ⟨z, its, n, r, e⟩ := x; exact ⟨z, its, n, r, k _ _ (.inl rfl) e⟩
  | tup xs => obtain ⟨z, its, r, ob, e, c⟩ := x; exact ⟨z, its, r, ob, k _ _ (.inl rfl) e, c⟩
  | dK kvs => obtain ⟨z, y, vs, r, ob, es, ep, e, c⟩ := x; exact ⟨z, y, vs, r, ob, es, ep, k _ _ (.inl rfl) e, c⟩
  | dT kvs =>
    obtain ⟨z, y, xs, r, ob, es, ep, e, c⟩ := x
    exact ⟨z, y, xs, Paired.mapP r fun p q z => ⟨z.1, ht _ _ z.2.1, z.2.2⟩, ob, es, ep, k _ _ (.inl rfl) e, c⟩
  | set S n => obtain ⟨ob, es, ep, t, e, c⟩ := x; exact ⟨ob, es, ep, t, k _ _ (.inl rfl) e, c⟩
  | ins C dx fs =>
    obtain ⟨d, z, ne, e, mA, ⟨od, es, ep, e2, c⟩, r⟩ := x
    exact ⟨ho _ d, z, ne, k _ _ (.inl rfl) e, mA, ⟨od, es, ep, k _ _ (.inr d) e2, c⟩, r⟩
  | own y => obtain ⟨ob, e⟩ := x; exact ⟨ob, k _ _ (.inl rfl) e⟩
  | xd fs => obtain ⟨mA, ⟨od, es, ep, e, c⟩, r⟩ := x; exact ⟨mA, ⟨od, es, ep, k _ _ (.inl rfl) e, c⟩, r⟩
  | rng lo hi => obtain ⟨t, u, v, e⟩ := x; exact ⟨t, u, v, k _ _ (.inl rfl) e⟩
  | frz ob u ih => obtain ⟨e, q⟩ := x; exact ⟨k _ _ (.inl rfl) e, ih q⟩
  | tbl ps =>
    have e : h.get? a = some { cls := .none, data := .fields ps } := x
    show h'.get? a = some { cls := .none, data := .fields ps }
    exact k a _ (.inl rfl) e
  | met f y =>
    have e : h.get? a = some (PySem.W.methodObj (.ref f) (.ref y)) := x
    show h'.get? a = some (PySem.W.methodObj (.ref f) (.ref y))
    exact k a _ (.inl rfl) e
  | ext φ => obtain ⟨p, ⟨o, e⟩, st⟩ := x; exact ⟨st _ _ p fun o q => k _ _ (.inl rfl) q, ⟨o, k _ _ (.inl rfl) e⟩, st⟩
theorem HOk.lt (x : HOk P w H h) (e : H a = some o) : a < h.objs.size := (x a o e).lt
theorem HOk.fresh (x : HOk P w H h) (e : h.objs.size ≤ a) : H a = none := by
  cases q : H a with
  | none => rfl
  | some u => exact absurd (Nat.lt_of_lt_of_le (x.lt q) e) (Nat.lt_irrefl _)
/-- every object of the heap is kept -/
theorem HOk.kept (x : HOk P w H h) (k : ∀ b u, h.get? b = some u → h'.get? b = some u) : HOk P w H h' := fun a o e =>
  (x a o e).stay (fun b u _ q => k b u q) (fun _ q => q) fun _ _ q => q
/-- a new object is laid and tracked -/
theorem HOk.laid (x : HOk P w H h) (k : ∀ b u, h.get? b = some u → h'.get? b = some u) (hp : h.objs.size ≤ a) (new : ObjOk P w (upd H a o) h' a o) : HOk P w (upd H a o) h' := fun b u e => by
  have hn := x.fresh hp
  by_cases hb : b = a
  · subst hb; rw [upd_same] at e; cases e; exact new
  · rw [upd_ne hb] at e
    exact (x b u e).stay (fun c v _ q => k c v q) (fun c q => by rw [upd_ne (ne_of_none q hn)]; exact q) fun c xs q => by rw [upd_ne (ne_of_none q hn)]; exact q
end

/-- what may be read as u: it is u, or a known u -/
def Rd (H : Hp) (a : Addr) (u : HO) : Prop := H a = some u ∨ ∃ o, H a = some (.frz o u)
theorem Rd.of {H : Hp} {a : Addr} {u : HO} (h : H a = some u) : Rd H a u := .inl h
theorem Rd.ok {P : Program} {w : World} {H : Hp} {h : Heap} {a : Addr} {u : HO} (r : Rd H a u) (x : HOk P w H h) : ObjOk P w H h a u := by
  rcases r with r | ⟨o, r⟩
  · exact x a u r
  · obtain ⟨_, q⟩ := x a _ r
    exact q
/-- what may be written -/
def Mut : Option HO → Prop
  | some (.lst _) => True
  | some (.dK _) => True
  | some (.dT _) => True
  | some (.set _ _) => True
  | some (.ins _ _ _) => True
  | some (.ext _) => True
  | _ => False
section
variable {P : Program} {w : World} {H : Hp} {h h' : Heap} {x e : Addr} {o' : HO}
/-- the object at e is changed: x itself, or the dict of the instance x -/
theorem HOk.write (ok : HOk P w H h) (mu : Mut (H x)) (he : e = x ∨ H e = some (.own x)) (k : ∀ b u, b ≠ e → h.get? b = some u → h'.get? b = some u) (heo : ∃ u, h'.get? e = some u)
    (new : ObjOk P w (upd H x o') h' x o') : HOk P w (upd H x o') h' := fun b u q => by
  have nown : ∀ c y, H c = some (.own y) → c ≠ x := fun c y r z => by subst z; rw [r] at mu; exact mu
  have ntup : ∀ c xs, H c = some (.tup xs) → c ≠ x := fun c xs r z => by subst z; rw [r] at mu; exact mu
  by_cases hb : b = x
  · subst hb; rw [upd_same] at q; cases q; exact new
  · rw [upd_ne hb] at q
    by_cases hbe : b = e
    · have q' : H b = some (.own x) := by
        rcases he with z | z
        · exact absurd (hbe.trans z) hb
        · rw [hbe]; exact z
      rw [q] at q'; cases q'
      obtain ⟨v, hv⟩ := heo
      exact ⟨v, by rw [hbe]; exact hv⟩
    · refine (ok b u q).stay (fun c v hc r => k c v ?_ r) (fun c r => by rw [upd_ne (nown c b r)]; exact r) fun c xs r => by rw [upd_ne (ntup c xs r)]; exact r
      rcases hc with rfl | hc
      · exact hbe
      · rintro rfl
        rcases he with z | z
        · exact nown c b hc z
        · rw [hc] at z; cases z; exact hb rfl
end

structure Un (fs ex : List Addr) (H H' : Hp) (h h' : Heap) : Prop where
  keep : ∀ b o, h.get? b = some o → H b = none → b ∉ fs → b ∉ ex → h'.get? b = some o
  slot : ∀ b o, h.get? b = some o → H b = none → b ∈ fs → b ∉ ex → ∃ sl, h'.get? b = some { o with slots := sl }
  free : ∀ b o, h.get? b = some o → H b = none → b ∉ ex → H' b = none
  there : ∀ b o, h.get? b = some o → b ∉ ex → ∃ o', h'.get? b = some o'
  tups : ∀ b xs, H b = some (.tup xs) → H' b = some (.tup xs)
  frzs : ∀ b o u, H b = some (.frz o u) → H' b = some (.frz o u)
  tbls : ∀ b ps, H b = some (.tbl ps) → ∃ more, H' b = some (.tbl (ps ++ more))
section
variable {fs fs' ex ex' : List Addr} {H H1 H2 : Hp} {h h1 h2 h' : Heap} {a x e : Addr} {o : HO}
theorem Un.any (u : Un fs ex H H1 h h1) {b : Addr} {ob : Obj} (q : h.get? b = some ob) (n : H b = none) (hx : b ∉ ex) : ∃ sl, h1.get? b = some { ob with slots := sl } := by
  by_cases hb : b ∈ fs
  · exact u.slot b ob q n hb hx
  · exact ⟨ob.slots, u.keep b ob q n hb hx⟩
theorem Un.trans (a : Un fs ex H H1 h h1) (b : Un fs ex H1 H2 h1 h2) : Un fs ex H H2 h h2 where
  keep := fun c ob q n hc hx => b.keep c ob (a.keep c ob q n hc hx) (a.free c ob q n hx) hc hx
  slot := fun c ob q n hc hx => by
    obtain ⟨sl, e1⟩ := a.slot c ob q n hc hx
    obtain ⟨sl', e2⟩ := b.slot c _ e1 (a.free c ob q n hx) hc hx
    exact ⟨sl', e2⟩
  free := fun c ob q n hx => by
    obtain ⟨o', e1⟩ := a.there c ob q hx
    exact b.free c o' e1 (a.free c ob q n hx) hx
  there := fun c ob q hx => by
    obtain ⟨o', e1⟩ := a.there c ob q hx
    exact b.there c o' e1 hx
  tups := fun c xs q => b.tups c xs (a.tups c xs q)
  frzs := fun c ob xs q => b.frzs c ob xs (a.frzs c ob xs q)
  tbls := fun c ps q => by
    obtain ⟨m1, e1⟩ := a.tbls c ps q
    obtain ⟨m2, e2⟩ := b.tbls c _ e1
    exact ⟨m1 ++ m2, by rw [e2, Array.append_assoc]⟩
theorem Un.kept (k : ∀ b u, h.get? b = some u → h'.get? b = some u) : Un fs ex H H h h' :=
  ⟨fun b ob q _ _ _ => k b ob q, fun b ob q _ _ _ => ⟨ob.slots, k b ob q⟩, fun _ _ _ n _ => n, fun b ob q _ => ⟨ob, k b ob q⟩, fun _ _ q => q, fun _ _ _ q => q, fun _ ps q => ⟨#[], by rw [q]; simp⟩⟩
theorem Un.refl : Un fs ex H H h h := Un.kept fun _ _ q => q
theorem Un.laid (k : ∀ b u, h.get? b = some u → h'.get? b = some u) (hp : h.objs.size ≤ a) (hn : H a = none) : Un fs ex H (upd H a o) h h' where
  keep := fun b u q _ _ _ => k b u q
  slot := fun b u q _ _ _ => ⟨u.slots, k b u q⟩
  free := fun b u q n _ => by rw [upd_ne (Nat.ne_of_lt (Nat.lt_of_lt_of_le (Heap.lt_size q) hp))]; exact n
  there := fun b u q _ => ⟨u, k b u q⟩
  tups := fun b xs q => by rw [upd_ne (ne_of_none q hn)]; exact q
  frzs := fun b u xs q => by rw [upd_ne (ne_of_none q hn)]; exact q
  tbls := fun b ps q => ⟨#[], by rw [upd_ne (ne_of_none q hn), q]; simp⟩
theorem Un.write (mu : Mut (H x)) (he : e = x ∨ H e = some (.own x)) (k : ∀ b u, b ≠ e → h.get? b = some u → h'.get? b = some u) (heo : ∃ u, h'.get? e = some u) : Un fs ex H (upd H x o) h h' := by
  have hx : ∀ b, H b = none → b ≠ x := fun b n z => by subst z; rw [n] at mu; exact mu
  have hb : ∀ b, H b = none → b ≠ e := fun b n z => by
    subst z
    rcases he with r | r
    · exact hx b n r
    · rw [n] at r; cases r
  have hm : ∀ b u, H b = some u → ¬ Mut (some u) → b ≠ x := fun b u q nm z => by subst z; rw [q] at mu; exact nm mu
  refine ⟨fun b u q n _ _ => k b u (hb b n) q, fun b u q n _ _ => ⟨u.slots, k b u (hb b n) q⟩, fun b u q n _ => by rw [upd_ne (hx b n)]; exact n, fun b u q _ => ?_,
    fun b xs q => by rw [upd_ne (hm b _ q fun z => z)]; exact q, fun b u xs q => by rw [upd_ne (hm b _ q fun z => z)]; exact q, fun b ps q => ⟨#[], by rw [upd_ne (hm b _ q fun z => z), q]; simp⟩⟩
  by_cases hbe : b = e
  · subst hbe; exact heo
  · exact ⟨u, k b u hbe q⟩
theorem Un.mono (u : Un fs ex H H1 h h1) (hs : ∀ b ∈ fs, b ∈ fs') (hx : ∀ b ∈ ex, b ∈ ex') : Un fs' ex' H H1 h h1 :=
  ⟨fun b ob q n hb he => u.keep b ob q n (fun z => hb (hs b z)) fun z => he (hx b z), fun _ _ q n _ he => u.any q n fun z => he (hx _ z), fun b ob q n he => u.free b ob q n fun z => he (hx b z), fun b ob q he => u.there b ob q fun z => he (hx b z), u.tups, u.frzs, u.tbls⟩
end

def trk (h : Heap) (H : Hp) : List Addr := (List.range h.objs.size).filter fun a => (H a).isSome
def hidT (h : Heap) (H : Hp) : Heap := PySem.W.hideAll h (trk h H)
theorem hidT_size (h : Heap) (H : Hp) : (hidT h H).objs.size = h.objs.size := PySem.W.hideAll_size _ _
theorem hidT_get {h : Heap} {H : Hp} {b : Addr} {o : Obj} (e : h.get? b = some o) (n : H b = none) : (hidT h H).get? b = some o :=
  PySem.W.hideAll_get _ e fun hm => by
    have q : (H b).isSome = true := (List.mem_filter.mp hm).2
    rw [n] at q; simp at q
theorem of_hidT {h : Heap} {H : Hp} {b : Addr} {o : Obj} (e : (hidT h H).get? b = some o) : h.get? b = some o ∧ H b = none := by
  have e' : h.get? b = some o := PySem.W.of_hideAll (trk h H) e
  refine ⟨e', ?_⟩
  cases q : H b with
  | none => rfl
  | some x =>
    have hm : b ∈ trk h H := List.mem_filter.mpr ⟨List.mem_range.mpr (Heap.lt_size e'), by simp [q]⟩
    have z : (hidT h H).get? b = none := PySem.W.hideAll_none (trk h H) hm
    rw [z] at e; cases e

def allNews (g h : Heap) (L : Addr) : List (Addr × Obj) := (List.range h.objs.size).filterMap fun a => if a = L ∨ (g.get? a).isSome = true then none else (h.get? a).map fun o => (a, o)
def rest (g h : Heap) (L d : Addr) : List (Addr × Obj) := (allNews g h L).filter fun p => decide (p.1 ≠ d)
end L2

namespace L2
open PySem PySem.Spec PyProof.Rows

/-- the module's facts, over the base: the heap at the law's entry without what is tracked there -/
structure Mod (K : PySem.W.Frag) (mg : Str → Option Value) (base : Heap) : Prop where
  kin : K.In base
  glob : base.Ns mainGlobals mg
  blt : ∃ mb, base.Ns builtinsNs mb ∧ ∀ x : Str, x ≠ "__name__" → mb x = bootBuiltins x
  nolimit : base.NoLimit

/-- the context: a def's body (or a comprehension's block) running. base: fixed through the whole law; s₀, H₀: the entry; outer: the frames whose slots others may change (a def's callers); stack: all frames that run;
   ex: iterators that were made ahead of the entry and are walked here (a comprehension's); fn: the names whose cells were made at the entry (a def: all; a comprehension's block: its own); calm: not within an except suite; pn: pins that every state bears; xe: what is wanted of an exception that leaves the code -/
structure Cx where
  prog : Program
  w : World
  K : PySem.W.Frag
  mg : Str → Option Value
  base : Heap
  A : Around
  N : List Str
  s₀ : Shared
  H₀ : Hp
  env : Env
  outer : List Env
  stack : List Env
  ex : List Addr
  fn : Str → Bool
  calm : Bool
  pn : List (Addr × Obj)
  xe : Value → Shared → Prop
/-- the callers' frames -/
def frs (l : List Env) : List Addr := l.filterMap (·.frame)
abbrev Cx.fs (X : Cx) : List Addr := frs X.outer

def Vis (sc : Scope) (x : Str) : Prop := sc.names.lookup x = some .local ∨ sc.names.lookup x = some .cell ∨ sc.names.lookup x = some .free
def Loc (sc : Scope) (x : Str) : Prop := sc.names.lookup x = some .local ∨ sc.names.lookup x = some .cell
def Look (env : Env) (h : Heap) (m : Str → Option Value) (x : Str) (u : Value) : Prop :=
  (env.kindOf x = some .local ∧ m x = some u) ∨ ((env.kindOf x = some .cell ∨ env.kindOf x = some .free) ∧ ∃ c, env.cells.lookup x = some c ∧ h.IsCell c (some u))

structure Cx.Ok (X : Cx) : Prop where
  mod : Mod X.K X.mg X.base
  kind : X.env.scope.kind = .function
  glob : X.env.globals = mainGlobals
  blt : X.env.builtins = builtinsNs
  above : X.s₀.heap.objs.size ≤ X.env.locals
  inj : ∀ x y c, X.env.cells.lookup x = some c → X.env.cells.lookup y = some c → x = y
  has : ∀ x, (X.env.kindOf x = some .cell ∨ X.env.kindOf x = some .free) → ∃ c, X.env.cells.lookup x = some c
  cab : ∀ x c, X.fn x = true → X.env.cells.lookup x = some c → X.s₀.heap.objs.size ≤ c
  hd : X.calm = true → X.A.handled = none
  frames : X.A.frames = some X.stack
  stk : X.stack = X.outer ∨ (X.stack = X.env :: X.outer ∧ X.env.frame = some X.env.locals)
  exf : ∀ b ∈ X.ex, b ≠ X.env.locals ∧ ∀ x c, X.env.cells.lookup x = some c → c ≠ b
  bs : ∀ b o, X.base.get? b = some o → X.s₀.heap.get? b = some o ∧ X.H₀ b = none
  bsz : X.base.objs.size ≤ X.s₀.heap.objs.size
  noex : ∀ b o, X.base.get? b = some o → b ∉ X.ex
  exfs : ∀ b ∈ X.ex, b ∉ X.fs
  funs : X.s₀.heap.FunFrames X.base X.outer
  frf : ∀ b ∈ X.fs, X.H₀ b = none

structure Inv (X : Cx) (pins : List (Addr × Obj)) (σ : List (Option V)) (H : Hp) (s : Shared) : Prop where
  ok : X.Ok
  os : s.os = X.s₀.os
  bare : AllBare s.gens
  base : Un X.fs X.ex X.H₀ H X.s₀.heap s.heap
  loc : ∃ m, s.heap.Ns X.env.locals m ∧ ∀ (i : Nat) (x : Str) (v : V), X.N[i]? = some x → σ[i]? = some (some v) → Vis X.env.scope x → ∃ u, RelV v u ∧ Look X.env s.heap m x u
  cell : ∀ x c, X.env.cells.lookup x = some c → ∃ v, s.heap.IsCell c v
  free : H X.env.locals = none
  freeC : ∀ x c, X.env.cells.lookup x = some c → H c = none
  pin : ∀ p ∈ X.pn ++ pins, s.heap.get? p.1 = some p.2 ∧ H p.1 = none ∧ p.1 ≠ X.env.locals ∧ p.1 ∉ X.fs ∧ ∀ v, p.2.data ≠ .cell v
  hok : HOk X.prog X.w H s.heap
  len : σ.length = X.N.length

section
variable {X : Cx} {pins : List (Addr × Obj)} {σ : List (Option V)} {H H' : Hp} {s : Shared} {h' : Heap}

theorem Cx.Ok.nofr (ok : X.Ok) {b : Addr} {o : Obj} (e : X.base.get? b = some o) : b ∉ X.fs := fun hb => by
  have := (ok.funs.mem hb).1
  rw [e] at this; cases this
theorem Inv.bs (I : Inv X pins σ H s) : ∀ b o, X.base.get? b = some o → s.heap.get? b = some o ∧ H b = none := fun b o e =>
  ⟨I.base.keep b o (I.ok.bs b o e).1 (I.ok.bs b o e).2 (I.ok.nofr e) (I.ok.noex b o e), I.base.free b o (I.ok.bs b o e).1 (I.ok.bs b o e).2 (I.ok.noex b o e)⟩
theorem Inv.bk (I : Inv X pins σ H s) : ∀ b o, X.base.get? b = some o → s.heap.get? b = some o := fun b o e => (I.bs b o e).1
theorem Inv.mod (I : Inv X pins σ H s) : Mod X.K X.mg X.base := I.ok.mod
theorem Inv.kIn (I : Inv X pins σ H s) : X.K.In s.heap := I.ok.mod.kin.keeps I.bk
theorem Inv.nolimit (I : Inv X pins σ H s) : s.heap.NoLimit := I.ok.mod.nolimit.keeps I.bk
/-- the frame over the base: for OpenK's rules (K.In X.base is I.mod.kin) -/
theorem Inv.fr (I : Inv X pins σ H s) : ∃ m, Fr X.base X.env.locals s.heap m :=
  let ⟨m, hn, _⟩ := I.loc
  ⟨m, hn, I.bk, Nat.le_trans I.ok.bsz I.ok.above⟩
theorem Inv.lt (I : Inv X pins σ H s) : X.env.locals < s.heap.objs.size := let ⟨_, hn, _⟩ := I.loc; hn.lt
theorem Inv.sz (I : Inv X pins σ H s) : X.s₀.heap.objs.size ≤ s.heap.objs.size := Nat.le_trans I.ok.above (Nat.le_of_lt I.lt)
theorem Inv.nofs (I : Inv X pins σ H s) {a : Addr} (h : s.heap.objs.size ≤ a) : a ∉ X.fs := fun hb => by
  obtain ⟨_, o, ho, _⟩ := I.ok.funs.mem hb
  exact absurd (Nat.lt_of_lt_of_le (Heap.lt_size ho) (Nat.le_trans I.sz h)) (Nat.lt_irrefl _)
theorem Inv.cne (I : Inv X pins σ H s) : ∀ x c, X.env.cells.lookup x = some c → c ≠ X.env.locals := fun x c e z => by
  obtain ⟨v, o, ho, hd⟩ := I.cell x c e
  obtain ⟨m, ⟨o', es, ep, ho', hd', _⟩, _⟩ := I.loc
  rw [z, ho'] at ho; cases ho; rw [hd'] at hd; cases hd
theorem Inv.funs (I : Inv X pins σ H s) : s.heap.FunFrames X.base X.outer := by
  have all : ∀ (l : List Env), (∀ b ∈ frs l, b ∈ X.fs) → X.s₀.heap.FunFrames X.base l → s.heap.FunFrames X.base l := by
    intro l
    induction l with
    | nil => intro _ _; trivial
    | cons env r ih =>
      intro hs hl
      obtain ⟨hk, ⟨L, o, hf, hn, ho, hd⟩, hr⟩ := hl
      have hL : L ∈ X.fs := hs L (by unfold frs; rw [List.filterMap_cons, hf]; exact List.mem_cons_self)
      obtain ⟨sl, e⟩ := I.base.slot L o ho (I.ok.frf L hL) hL fun z => I.ok.exfs L z hL
      exact ⟨hk, ⟨L, _, hf, hn, e, hd⟩, ih (fun b hb => hs b (by unfold frs; rw [List.filterMap_cons, hf]; exact List.mem_cons_of_mem _ hb)) hr⟩
  exact all X.outer (fun _ hb => hb) I.ok.funs

/-- the frames that run, for a call -/
theorem Inv.stack (I : Inv X pins σ H s) : s.heap.FunFrames X.base X.stack := by
  rcases I.ok.stk with e | ⟨e, hf⟩
  · rw [e]; exact I.funs
  · rw [e]
    obtain ⟨m, hn, _⟩ := I.loc
    refine .cons (by rw [I.ok.kind]; decide) hf hn ?_ I.funs
    exact Heap.get?_none_of_le (Nat.le_trans I.ok.bsz I.ok.above)
theorem Inv.stkSub (I : Inv X pins σ H s) : ∀ b ∈ frs X.stack, b ∈ X.env.locals :: X.fs := fun b hb => by
  rcases I.ok.stk with e | ⟨e, hf⟩
  · rw [e] at hb; exact List.mem_cons_of_mem _ hb
  · rw [e] at hb
    unfold frs at hb
    rw [List.filterMap_cons, hf] at hb
    exact hb
theorem Inv.stkFree (I : Inv X pins σ H s) : ∀ b ∈ frs X.stack, H b = none := fun b hb => by
  rcases List.mem_cons.mp (I.stkSub b hb) with e | hb
  · rw [e]; exact I.free
  · obtain ⟨_, o, ho, _⟩ := I.ok.funs.mem hb
    exact I.base.free b o ho (I.ok.frf b hb) fun z => I.ok.exfs b z hb

/-- THE STEP: the untracked objects but the frame and the records at ch are kept (the callers' frames up to slots), the frame's map is kept, the new abstract heap is held -/
theorem Inv.step {g' : Array GenState} {t' : Nat} {d' : Drawn} {ch : List Addr} (I : Inv X pins σ H s)
    (hch : ∀ b ∈ ch, (b ∈ X.ex ∨ X.s₀.heap.objs.size ≤ b) ∧ b ≠ X.env.locals ∧ (∀ x c, X.env.cells.lookup x = some c → c ≠ b) ∧ ∀ p ∈ X.pn ++ pins, p.1 ≠ b)
    (keep : ∀ b o, b ≠ X.env.locals → b ∉ X.fs → b ∉ ch → s.heap.get? b = some o → H b = none → h'.get? b = some o)
    (slot : ∀ b o, b ≠ X.env.locals → b ∈ X.fs → b ∉ ch → s.heap.get? b = some o → H b = none → ∃ sl, h'.get? b = some { o with slots := sl }) (free : ∀ b o, b ∉ ch → s.heap.get? b = some o → H b = none → H' b = none)
    (there : ∀ b o, b ∉ ch → s.heap.get? b = some o → ∃ o', h'.get? b = some o')
    (tups : ∀ b xs, H b = some (.tup xs) → H' b = some (.tup xs)) (frzs : ∀ b o u, H b = some (.frz o u) → H' b = some (.frz o u)) (tbls : ∀ b ps, H b = some (.tbl ps) → ∃ more, H' b = some (.tbl (ps ++ more)))
    (ns : ∀ m, s.heap.Ns X.env.locals m → h'.Ns X.env.locals m) (hok : HOk X.prog X.w H' h') (hg : AllBare g') :
    Inv X pins σ H' { s with heap := h', gens := g', drawn := d', toks := t' } := by
  have neL : ∀ b o, X.s₀.heap.get? b = some o → b ≠ X.env.locals := fun b o e => Nat.ne_of_lt (Nat.lt_of_lt_of_le (Heap.lt_size e) I.ok.above)
  have neC : ∀ b o, X.s₀.heap.get? b = some o → b ∉ X.ex → b ∉ ch := fun b o e hx hb => by
    rcases (hch b hb).1 with z | z
    · exact hx z
    · exact absurd (Nat.lt_of_lt_of_le (Heap.lt_size e) z) (Nat.lt_irrefl _)
  have cellK : ∀ x c, X.env.cells.lookup x = some c → ∀ v, s.heap.IsCell c v → h'.IsCell c v := fun x c e v ⟨o, ho, hd⟩ => by
    have nch : c ∉ ch := fun z => (hch c z).2.2.1 x c e rfl
    by_cases hc : c ∈ X.fs
    · obtain ⟨sl, q⟩ := slot c o (I.cne x c e) hc nch ho (I.freeC x c e)
      exact ⟨_, q, hd⟩
    · exact ⟨o, keep c o (I.cne x c e) hc nch ho (I.freeC x c e), hd⟩
  refine ⟨I.ok, I.os, hg, ⟨fun b o e n hb hx => ?_, fun b o e n hb hx => ?_, fun b o e n hx => ?_, fun b o e hx => ?_, fun b xs e => tups b xs (I.base.tups b xs e), fun b o xs e => frzs b o xs (I.base.frzs b o xs e), fun b ps e => ?_⟩, ?_, fun x c e => ?_, ?_, fun x c e => ?_, fun p hp => ?_, hok, I.len⟩
  · exact keep b o (neL b o e) hb (neC b o e hx) (I.base.keep b o e n hb hx) (I.base.free b o e n hx)
  · obtain ⟨sl, e1⟩ := I.base.slot b o e n hb hx
    obtain ⟨sl', e2⟩ := slot b _ (neL b o e) hb (neC b o e hx) e1 (I.base.free b o e n hx)
    exact ⟨sl', e2⟩
  · obtain ⟨o', e1⟩ := I.base.there b o e hx
    exact free b o' (neC b o e hx) e1 (I.base.free b o e n hx)
  · obtain ⟨o', e1⟩ := I.base.there b o e hx
    exact there b o' (neC b o e hx) e1
  · obtain ⟨m1, e1⟩ := I.base.tbls b ps e
    obtain ⟨m2, e2⟩ := tbls b _ e1
    exact ⟨m1 ++ m2, by rw [e2, Array.append_assoc]⟩
  · obtain ⟨m, hn, hl⟩ := I.loc
    refine ⟨m, ns m hn, fun i x v e1 e2 e3 => ?_⟩
    obtain ⟨u, r, l⟩ := hl i x v e1 e2 e3
    refine ⟨u, r, ?_⟩
    rcases l with l | ⟨k, c, e, z⟩
    · exact .inl l
    · exact .inr ⟨k, c, e, cellK x c e _ z⟩
  · obtain ⟨v, z⟩ := I.cell x c e
    exact ⟨v, cellK x c e v z⟩
  · obtain ⟨m, ⟨o, _, _, ho, _⟩, _⟩ := I.loc
    exact free _ o (fun z => (hch _ z).2.1 rfl) ho I.free
  · obtain ⟨v, o, ho, hd⟩ := I.cell x c e
    exact free c o (fun z => (hch c z).2.2.1 x c e rfl) ho (I.freeC x c e)
  · obtain ⟨e, n, ne, nf, d⟩ := I.pin p hp
    have nch : p.1 ∉ ch := fun z => (hch p.1 z).2.2.2 p hp rfl
    exact ⟨keep p.1 p.2 ne nf nch e n, free p.1 p.2 nch e n, ne, nf, d⟩
/-- .. where the frame's own object is kept too -/
theorem Inv.un {t' : Nat} (I : Inv X pins σ H s) (u : Un X.fs [] H H' s.heap h') (hok : HOk X.prog X.w H' h') : Inv X pins σ H' { s with heap := h', toks := t' } := by
  obtain ⟨m, ⟨o, es, ep, ho, r⟩, _⟩ := id I.loc
  obtain ⟨sl, hL⟩ := u.any ho I.free (by simp)
  exact I.step (g' := s.gens) (d' := s.drawn) (ch := []) (fun _ z => nomatch z) (fun b o _ hb _ e n => u.keep b o e n hb (by simp)) (fun b o _ hb _ e n => u.slot b o e n hb (by simp)) (fun b o _ e n => u.free b o e n (by simp)) (fun b o _ e => u.there b o e (by simp)) u.tups u.frzs u.tbls (fun m' hm => by
    obtain ⟨o', es', ep', ho', r'⟩ := hm
    rw [ho] at ho'; cases ho'
    exact ⟨_, es', ep', hL, r'⟩) hok I.bare
/-- behind a call (or a comprehension's block): the slots of this frame may have changed too, the records at ch may have turned -/
theorem Inv.call {g' : Array GenState} {t' : Nat} {d' : Drawn} {ch : List Addr} (I : Inv X pins σ H s) (u : Un (frs X.stack) ch H H' s.heap h') (hok : HOk X.prog X.w H' h') (hg : AllBare g')
    (hch : ∀ b ∈ ch, (b ∈ X.ex ∨ X.s₀.heap.objs.size ≤ b) ∧ b ≠ X.env.locals ∧ (∀ x c, X.env.cells.lookup x = some c → c ≠ b) ∧ ∀ p ∈ X.pn ++ pins, p.1 ≠ b) :
    Inv X pins σ H' { s with heap := h', gens := g', drawn := d', toks := t' } := by
  obtain ⟨m, ⟨o, es, ep, ho, r⟩, _⟩ := id I.loc
  obtain ⟨sl, hL⟩ := u.any ho I.free fun z => (hch _ z).2.1 rfl
  exact I.step (ch := ch) hch (fun b o hL hb hc e n => u.keep b o e n (fun z => (List.mem_cons.mp (I.stkSub b z)).elim hL hb) hc) (fun b o _ _ hc e n => u.any e n hc) (fun b o hc e n => u.free b o e n hc) (fun b o hc e => u.there b o e hc) u.tups u.frzs u.tbls (fun m' hm => by
    obtain ⟨o', es', ep', ho', r'⟩ := hm
    rw [ho] at ho'; cases ho'
    exact ⟨_, es', ep', hL, r'⟩) hok hg
/-- an untracked record of ours (an iterator) has turned -/
theorem Inv.turned {t' : Nat} {it : Addr} (I : Inv X pins σ H s) (k : ∀ b o, b ≠ it → s.heap.get? b = some o → h'.get? b = some o) (hn : H it = none) (hL : it ≠ X.env.locals)
    (h1 : it ∈ X.ex ∨ X.s₀.heap.objs.size ≤ it) (h2 : ∀ x c, X.env.cells.lookup x = some c → c ≠ it) (h3 : ∀ p ∈ X.pn ++ pins, p.1 ≠ it) : Inv X pins σ H { s with heap := h', toks := t' } := by
  have nit : ∀ b u, H b = some u → b ≠ it := fun b u e z => by rw [z, hn] at e; cases e
  refine I.step (g' := s.gens) (d' := s.drawn) (ch := [it]) (fun b hb => ?_) (fun b o _ _ hc e _ => k b o (fun z => hc (by simp [z])) e) (fun b o _ _ hc e _ => ⟨o.slots, k b o (fun z => hc (by simp [z])) e⟩) (fun _ _ _ _ n => n)
    (fun b o hc e => ⟨o, k b o (fun z => hc (by simp [z])) e⟩) (fun _ _ e => e) (fun _ _ _ e => e) (fun b ps e => ⟨#[], by rw [e]; simp⟩) (fun m hm => ?_) (fun b u e => ?_) I.bare
  · have e : b = it := by simpa using hb
    subst e
    exact ⟨h1, hL, h2, h3⟩
  · obtain ⟨o, es, ep, ho, r⟩ := hm
    exact ⟨o, es, ep, k _ o (Ne.symm hL) ho, r⟩
  · refine (I.hok b u e).stay (fun c v hc q => k c v ?_ q) (fun _ q => q) fun _ _ q => q
    rcases hc with z | z
    · rw [z]; exact nit b u e
    · exact nit c _ z
theorem Inv.tok (I : Inv X pins σ H s) (t : Nat) : Inv X pins σ H { s with toks := t } := I.un (h' := s.heap) (t' := t) Un.refl I.hok
/-- all objects kept -/
theorem Inv.kept {t' : Nat} (I : Inv X pins σ H s) (k : ∀ b u, s.heap.get? b = some u → h'.get? b = some u) : Inv X pins σ H { s with heap := h', toks := t' } := I.un (Un.kept k) (I.hok.kept k)
/-- a new object laid and tracked -/
theorem Inv.laid {a : Addr} {o : HO} {t' : Nat} (I : Inv X pins σ H s) (k : ∀ b u, s.heap.get? b = some u → h'.get? b = some u) (hp : s.heap.objs.size ≤ a) (new : ObjOk X.prog X.w (upd H a o) h' a o) :
    Inv X pins σ (upd H a o) { s with heap := h', toks := t' } := I.un (Un.laid k hp (I.hok.fresh hp)) (I.hok.laid k hp new)
/-- an object written -/
theorem Inv.write {x e : Addr} {o : HO} {t' : Nat} (I : Inv X pins σ H s) (mu : Mut (H x)) (he : e = x ∨ H e = some (.own x)) (k : ∀ b u, b ≠ e → s.heap.get? b = some u → h'.get? b = some u) (heo : ∃ u, h'.get? e = some u)
    (new : ObjOk X.prog X.w (upd H x o) h' x o) : Inv X pins σ (upd H x o) { s with heap := h', toks := t' } := I.un (Un.write mu he k heo) (I.hok.write mu he k heo new)
theorem Inv.pins_of {pins' : List (Addr × Obj)} (I : Inv X pins σ H s) (h : ∀ p ∈ pins', s.heap.get? p.1 = some p.2 ∧ H p.1 = none ∧ p.1 ≠ X.env.locals ∧ p.1 ∉ X.fs ∧ ∀ v, p.2.data ≠ .cell v) : Inv X pins' σ H s :=
  ⟨I.ok, I.os, I.bare, I.base, I.loc, I.cell, I.free, I.freeC, fun p hp => (List.mem_append.mp hp).elim (fun z => I.pin p (List.mem_append_left _ z)) (h p), I.hok, I.len⟩

theorem nodup_ix {N : List Str} (hN : N.Nodup) {i j : Nat} {x : Str} (a : N[i]? = some x) (b : N[j]? = some x) : i = j := by
  obtain ⟨h1, e1⟩ := List.getElem?_eq_some_iff.mp a
  obtain ⟨h2, e2⟩ := List.getElem?_eq_some_iff.mp b
  exact (List.getElem_inj hN).mp (e1.trans e2.symm)

/-- a name is stored; what changed -/
theorem store_ok2 {M : Model} {A : Around} {E : Value → Shared → Prop} {i : Nat} {x : Str} {v : V} {u : Value} {Q : Unit → Shared → Prop} (I : Inv X pins σ H s) (hN : X.N.Nodup) (hi : X.N[i]? = some x) (hx : Loc X.env.scope x) (r : RelV v u)
    (h : ∀ s', Inv X pins (σ.set i (some v)) H s' → (∃ a, Heap.SameBut a s.heap s'.heap ∧ (a = X.env.locals ∨ X.env.cells.lookup x = some a)) → Q () s') (hf : X.fn x = true ∨ X.env.scope.names.lookup x = some .local := by first | exact .inl rfl | exact .inr rfl | assumption) : wpAny M A (storeName X.env x u) Q E s := by
  obtain ⟨m, hn, hl⟩ := id I.loc
  have hcls : (X.env.scope.kind == .class || (X.env.scope.kind == .module && X.env.locals != X.env.globals)) = false := by rw [I.ok.kind]; rfl
  have hiσ : i < σ.length := by rw [I.len]; exact (List.getElem?_eq_some_iff.mp hi).1
  have cne := I.cne
  have tracked : ∀ {a : Addr} {h' : Heap}, (∃ o, s.heap.get? a = some o ∧ H a = none) → Heap.SameBut a s.heap h' → HOk X.prog X.w H h' := fun {a h'} ha hs b ob e => by
    obtain ⟨_, _, hfree⟩ := ha
    refine (I.hok b ob e).stay (fun c w' hc q => (hs.2 c ?_).trans q) (fun _ q => q) fun _ _ q => q
    rintro rfl
    rcases hc with rfl | hc
    · rw [hfree] at e; cases e
    · rw [hfree] at hc; cases hc
  rcases hx with hk | hk
  · refine wpAny_storeName_local hk hn (fun h' hn' hs => ?_) hcls
    obtain ⟨oL, _, _, hoL, _⟩ := id hn
    refine h _ ⟨I.ok, I.os, I.bare, ⟨fun b o e n hb hx => ?_, fun b o e n hb hx => ?_, I.base.free, fun b o e hx => ?_, I.base.tups, I.base.frzs, I.base.tbls⟩, ⟨_, hn', fun j y v' e1 e2 e3 => ?_⟩, fun y c e => ?_, I.free, I.freeC, fun p hp => ?_, tracked ⟨oL, hoL, I.free⟩ hs, by simpa using I.len⟩ ⟨_, hs, .inl rfl⟩
    · exact (hs.2 b (Nat.ne_of_lt (Nat.lt_of_lt_of_le (Heap.lt_size e) I.ok.above))).trans (I.base.keep b o e n hb hx)
    · obtain ⟨sl, e1⟩ := I.base.slot b o e n hb hx
      exact ⟨sl, (hs.2 b (Nat.ne_of_lt (Nat.lt_of_lt_of_le (Heap.lt_size e) I.ok.above))).trans e1⟩
    · obtain ⟨o', e1⟩ := I.base.there b o e hx
      exact ⟨o', (hs.2 b (Nat.ne_of_lt (Nat.lt_of_lt_of_le (Heap.lt_size e) I.ok.above))).trans e1⟩
    · by_cases hj : j = i
      · subst hj
        rw [hi] at e1; cases e1
        rw [List.getElem?_set_self hiσ] at e2
        cases e2
        exact ⟨u, r, .inl ⟨hk, by simp⟩⟩
      · rw [List.getElem?_set_ne (Ne.symm hj)] at e2
        obtain ⟨u', r', q⟩ := hl j y v' e1 e2 e3
        refine ⟨u', r', ?_⟩
        rcases q with ⟨k, e⟩ | ⟨k, c, e, z⟩
        · refine .inl ⟨k, ?_⟩
          have : y ≠ x := fun e => hj (nodup_ix hN e1 (e ▸ hi))
          simp [this, e]
        · exact .inr ⟨k, c, e, z.sameBut hs (cne y c e)⟩
    · obtain ⟨w', z⟩ := I.cell y c e
      exact ⟨w', z.sameBut hs (cne y c e)⟩
    · obtain ⟨e, n, ne, nf, d⟩ := I.pin p hp
      exact ⟨(hs.2 p.1 ne).trans e, n, ne, nf, d⟩
  · have hfn : X.fn x = true := by
      rcases hf with z | z
      · exact z
      · rw [z] at hk; cases hk
    obtain ⟨c, hc⟩ := I.ok.has x (.inl hk)
    obtain ⟨w', z⟩ := I.cell x c hc
    refine wpAny_storeName_cell I.ok.kind hk hc z (fun h' hc' hs => ?_)
    obtain ⟨oc, hoc, hocd⟩ := id z
    refine h { s with heap := h' } ⟨I.ok, I.os, I.bare, ⟨fun b o e n hb hx => ?_, fun b o e n hb hx => ?_, I.base.free, fun b o e hx => ?_, I.base.tups, I.base.frzs, I.base.tbls⟩, ⟨m, hn.sameBut hs (Ne.symm (cne x c hc)), fun j y v' e1 e2 e3 => ?_⟩, fun y c' e => ?_, I.free, I.freeC, fun p hp => ?_, tracked ⟨oc, hoc, I.freeC x c hc⟩ hs, by simpa using I.len⟩ ⟨c, hs, .inr hc⟩
    · exact (hs.2 b (Nat.ne_of_lt (Nat.lt_of_lt_of_le (Heap.lt_size e) (I.ok.cab x c hfn hc)))).trans (I.base.keep b o e n hb hx)
    · obtain ⟨sl, e1⟩ := I.base.slot b o e n hb hx
      exact ⟨sl, (hs.2 b (Nat.ne_of_lt (Nat.lt_of_lt_of_le (Heap.lt_size e) (I.ok.cab x c hfn hc)))).trans e1⟩
    · obtain ⟨o', e1⟩ := I.base.there b o e hx
      exact ⟨o', (hs.2 b (Nat.ne_of_lt (Nat.lt_of_lt_of_le (Heap.lt_size e) (I.ok.cab x c hfn hc)))).trans e1⟩
    · by_cases hj : j = i
      · subst hj
        rw [hi] at e1; cases e1
        rw [List.getElem?_set_self hiσ] at e2
        cases e2
        exact ⟨u, r, .inr ⟨.inl hk, c, hc, hc'⟩⟩
      · rw [List.getElem?_set_ne (Ne.symm hj)] at e2
        obtain ⟨u', r', q⟩ := hl j y v' e1 e2 e3
        refine ⟨u', r', ?_⟩
        rcases q with q | ⟨k, c', e, z'⟩
        · exact .inl q
        · refine .inr ⟨k, c', e, z'.sameBut hs ?_⟩
          rintro rfl
          exact hj (nodup_ix hN e1 (I.ok.inj _ _ _ e hc ▸ hi))
    · by_cases hcc : c' = c
      · subst hcc; exact ⟨_, hc'⟩
      · obtain ⟨w2, z2⟩ := I.cell y c' e
        exact ⟨w2, z2.sameBut hs hcc⟩
    · obtain ⟨e, n, ne, nf, d⟩ := I.pin p hp
      refine ⟨(hs.2 p.1 ?_).trans e, n, ne, nf, d⟩
      intro q
      rw [q, hoc] at e
      have q' : oc = p.2 := Option.some.inj e
      exact d w' (by rw [← q']; exact hocd)
theorem store_ok {M : Model} {A : Around} {E : Value → Shared → Prop} {i : Nat} {x : Str} {v : V} {u : Value} {Q : Unit → Shared → Prop} (I : Inv X pins σ H s) (hN : X.N.Nodup) (hi : X.N[i]? = some x) (hx : Loc X.env.scope x) (r : RelV v u)
    (h : ∀ s', Inv X pins (σ.set i (some v)) H s' → Q () s') (hf : X.fn x = true ∨ X.env.scope.names.lookup x = some .local := by first | exact .inl rfl | exact .inr rfl | assumption) : wpAny M A (storeName X.env x u) Q E s :=
  store_ok2 I hN hi hx r (fun s' I' _ => h s' I') hf
end

/-- an exception: its class, its own dict's address (where it has one), the abstract heap behind it -/
abbrev XK := Value → Option Addr → Hp → Prop
abbrev St := List (Option V)
abbrev VK := V → Hp → Prop
/-- an expression's reading; a test's; an argument list's -/
abbrev TE := St → Hp → VK → Prop
abbrev TT := St → Hp → (Bool → Hp → Prop) → Prop
abbrev TA := St → Hp → (List V → Hp → Prop) → Prop
/-- what is wanted behind a statement -/
structure Ends where
  nx : St → Hp → Prop
  rt : VK
  bk : St → Hp → Prop := fun _ _ => False
  ct : St → Hp → Prop := fun _ _ => False
abbrev TS := Ends → St → Hp → Prop

def EP (X : Cx) (pins : List (Addr × Obj)) (σ : St) (Q : VK) (u : Value) (s' : Shared) : Prop := ∃ v H', Inv X pins σ H' s' ∧ RelV v u ∧ Q v H'
def TP (X : Cx) (pins : List (Addr × Obj)) (σ : St) (Q : Bool → Hp → Prop) (b : Bool) (s' : Shared) : Prop := ∃ H', Inv X pins σ H' s' ∧ Q b H'
def AP (X : Cx) (pins : List (Addr × Obj)) (σ : St) (Q : List V → Hp → Prop) (us : List Value) (s' : Shared) : Prop := ∃ vs H', Inv X pins σ H' s' ∧ Vals vs us ∧ Q vs H'
def SP (X : Cx) (pins : List (Addr × Obj)) (D : Ends) (f : Flow) (s' : Shared) : Prop :=
  match f with
  | .next => ∃ σ' H', Inv X pins σ' H' s' ∧ D.nx σ' H'
  | .brk => ∃ σ' H', Inv X pins σ' H' s' ∧ D.bk σ' H'
  | .cont => ∃ σ' H', Inv X pins σ' H' s' ∧ D.ct σ' H'
  | .ret u => ∃ v σ' H', Inv X pins σ' H' s' ∧ RelV v u ∧ D.rt v H'

def PE (X : Cx) (e : Expr) (t : TE) : Prop :=
  ∀ (pins : List (Addr × Obj)) (s : Shared) (σ : St) (H : Hp) (Q : VK), Inv X pins σ H s → t σ H Q → wpAny (model X.prog X.w) X.A (eval e X.env) (EP X pins σ Q) X.xe s
def PT (X : Cx) (e : Expr) (t : TT) : Prop :=
  ∀ (pins : List (Addr × Obj)) (s : Shared) (σ : St) (H : Hp) (Q : Bool → Hp → Prop), Inv X pins σ H s → t σ H Q → wpAny (model X.prog X.w) X.A (isTrue e X.env (eval e X.env)) (TP X pins σ Q) X.xe s
/-- a test whatever its 'whole' is (and, or) -/
def PW (X : Cx) (e : Expr) (t : TT) : Prop :=
  ∀ (whole : Sem Value) (pins : List (Addr × Obj)) (s : Shared) (σ : St) (H : Hp) (Q : Bool → Hp → Prop), Inv X pins σ H s → t σ H Q → wpAny (model X.prog X.w) X.A (isTrue e X.env whole) (TP X pins σ Q) X.xe s
theorem PW.pt {X : Cx} {e : Expr} {t : TT} (h : PW X e t) : PT X e t := h _
/-- an argument list (no star), from the left -/
def PA (X : Cx) (es : List Expr) (t : TA) : Prop :=
  ∀ (pos : Pos) (pins : List (Addr × Obj)) (s : Shared) (σ : St) (H : Hp) (Q : List V → Hp → Prop), Inv X pins σ H s → t σ H Q → wpAny (model X.prog X.w) X.A (spliced (backTo pos (starEach es X.env))) (AP X pins σ Q) X.xe s
def PS (X : Cx) (st : Stmt) (t : TS) : Prop :=
  ∀ (pins : List (Addr × Obj)) (s : Shared) (σ : St) (H : Hp) (D : Ends), Inv X pins σ H s → t D σ H → wpAny (model X.prog X.w) X.A (exec st X.env) (SP X pins D) X.xe s
def PSs (X : Cx) (st : List Stmt) (t : TS) : Prop :=
  ∀ (pins : List (Addr × Obj)) (s : Shared) (σ : St) (H : Hp) (D : Ends), Inv X pins σ H s → t D σ H → wpAny (model X.prog X.w) X.A (execs st X.env) (SP X pins D) X.xe s
/-- weaken the end -/
theorem thn {α : Type} {t : Sem α} {Q Q' : α → Shared → Prop} {M : Model} {A : Around} {E : Value → Shared → Prop} {s : Shared} (h : wpAny M A t Q E s) (hQ : ∀ a s, Q a s → Q' a s) : wpAny M A t Q' E s := wpAny_mono h hQ fun _ _ x => x
end L2

namespace L2
open PySem PySem.Spec PyProof.Rows
section
variable {X : Cx}

def tVar (i : Nat) : TE := fun σ H Q => ∃ v, σ[i]? = some (some v) ∧ Q v H
def tC (v : V) : TE := fun _ H Q => Q v H
theorem pe_var {i : Nat} {x : Str} {pos : Pos} (hN : X.N[i]? = some x) (hv : Vis X.env.scope x) (hd : (x == ("__debug__" : Str)) = false := by decide) (hcd : (x == ("__classdict__" : Str)) = false := by decide) : PE X (.Name x pos) (tVar i) := by
  intro pins s σ H Q I h
  obtain ⟨v, e, h⟩ := h
  obtain ⟨m, hn, hl⟩ := I.loc
  obtain ⟨u, r, l⟩ := hl i x v hN e hv
  have fin : EP X pins σ Q u s := ⟨v, H, I, r, h⟩
  rcases l with ⟨hk, hm⟩ | ⟨hk, c, hc, hcell⟩
  · exact wpAny_Name (wpAny_loadName_local I.ok.kind hk hn hm fin) hd
  · rcases hk with hk | hk
    · exact wpAny_Name (wpAny_loadName_cell I.ok.kind hk hc hcell fin) hd
    · exact wpAny_Name (wpAny_loadName_free I.ok.kind hk hc hcell fin hcd) hd
theorem pe_int {i j pos} : PE X (.Constant (.int i) j pos) (tC (.int i)) := fun _ _ _ H _ I h => wpAny_Constant_int ⟨.int i, H, I.tok _, ⟨_, rfl⟩, h⟩
theorem pe_non {j pos} : PE X (.Constant .none j pos) (tC .non) := fun _ _ _ H _ I h => Constant_none ⟨.non, H, I, rfl, h⟩
theorem pe_str {x j pos} : PE X (.Constant (.str x) j pos) (tC (.str x)) := fun _ _ _ H _ I h => Calls.Constant_str ⟨.str x, H, I.tok _, ⟨_, rfl⟩, h⟩

/-- a global name of the def -/
def Gl (X : Cx) (x : Str) : Prop := X.env.kindOf x = some .globalImplicit
theorem ld_glob {E : Value → Shared → Prop} {pins : List (Addr × Obj)} {s : Shared} {σ : St} {H : Hp} {x : Str} {u : Value} {pos : Pos} {Q : Value → Shared → Prop} (I : Inv X pins σ H s) (hg : Gl X x) (hm : X.mg x = some u) (h : Q u s)
    (hd : (x == ("__debug__" : Str)) = false := by decide) : wpAny (model X.prog X.w) X.A (eval (.Name x pos) X.env) Q E s :=
  Calls.Name_function_global I.ok.kind hg (Calls.loadGlobal_global (by rw [I.ok.glob]; exact I.mod.glob.keeps I.bk) hm h) hd
theorem ld_blt {E : Value → Shared → Prop} {pins : List (Addr × Obj)} {s : Shared} {σ : St} {H : Hp} {x : Str} {u : Value} {pos : Pos} {Q : Value → Shared → Prop} (I : Inv X pins σ H s) (hg : Gl X x) (hm : X.mg x = none) (hv : bootBuiltins x = some u) (h : Q u s)
    (hn : x ≠ "__name__" := by decide) (hd : (x == ("__debug__" : Str)) = false := by decide) : wpAny (model X.prog X.w) X.A (eval (.Name x pos) X.env) Q E s := by
  obtain ⟨mb, h1, h2⟩ := I.mod.blt
  exact Calls.Name_function_global I.ok.kind hg (Calls.loadGlobal_builtin (by rw [I.ok.glob]; exact I.mod.glob.keeps I.bk) hm (by rw [I.ok.blt]; exact h1.keeps I.bk) ((h2 x hn).trans hv) h) hd
theorem pe_bltn {x : Str} {v : V} {u : Value} {pos : Pos} (hg : Gl X x) (hm : X.mg x = none) (hv : bootBuiltins x = some u) (r : RelV v u) (hn : x ≠ "__name__" := by decide) (hd : (x == ("__debug__" : Str)) = false := by decide) : PE X (.Name x pos) (tC v) :=
  fun _ _ _ H _ I h => ld_blt I hg hm hv ⟨v, H, I, r, h⟩ hn hd

variable {a b : Expr} {ta tb : TE} {pos : Pos}
variable {tA tB' : TT} {rest : List Expr}
def tAnd (t u : TT) : TT := fun σ H Q => t σ H fun c H1 => if c = true then u σ H1 Q else Q false H1
def tOr (t u : TT) : TT := fun σ H Q => t σ H fun c H1 => if c = true then Q true H1 else u σ H1 Q
theorem pw_and1 (ha : PT X a tA) : PW X (.BoolOp .And [a] pos) tA := by
  intro wh pins s σ H Q I h
  refine isTrue_and (thn (ha pins s σ H Q I h) fun c s1 e => ?_)
  cases c with
  | true => exact isTrue_and_nil e
  | false => exact e
theorem pw_or1 (ha : PT X a tA) : PW X (.BoolOp .Or [a] pos) tA := by
  intro wh pins s σ H Q I h
  refine isTrue_or (thn (ha pins s σ H Q I h) fun c s1 e => ?_)
  cases c with
  | false => exact isTrue_or_nil e
  | true => exact e
theorem pw_and (ha : PT X a tA) (hb : PW X (.BoolOp .And (b :: rest) pos) tB') : PW X (.BoolOp .And (a :: b :: rest) pos) (tAnd tA tB') := by
  intro wh pins s σ H Q I h
  refine isTrue_and (thn (ha pins s σ H _ I h) fun c s1 ⟨H1, I1, q1⟩ => ?_)
  cases c with
  | true => exact hb wh pins s1 σ H1 Q I1 q1
  | false => exact ⟨H1, I1, q1⟩
theorem pw_or (ha : PT X a tA) (hb : PW X (.BoolOp .Or (b :: rest) pos) tB') : PW X (.BoolOp .Or (a :: b :: rest) pos) (tOr tA tB') := by
  intro wh pins s σ H Q I h
  refine isTrue_or (thn (ha pins s σ H _ I h) fun c s1 ⟨H1, I1, q1⟩ => ?_)
  cases c with
  | true => exact ⟨H1, I1, q1⟩
  | false => exact hb wh pins s1 σ H1 Q I1 q1
/-- .. as values (bools) -/
def tAndV (ta tb : TE) : TE := fun σ H Q => ta σ H fun x H1 => ∃ c, x = .bl c ∧ if c = true then tb σ H1 Q else Q (.bl false) H1
theorem pe_one {op} {t : TE} (h : PE X a t) : PE X (.BoolOp op [a] pos) t := fun pins s σ H Q I hw => BoolOp_one (h pins s σ H Q I hw)
theorem pe_and (ha : PE X a ta) (hb : PE X (.BoolOp .And (b :: rest) pos) tb) : PE X (.BoolOp .And (a :: b :: rest) pos) (tAndV ta tb) := by
  intro pins s σ H Q I h
  refine BoolOp_and (thn (ha pins s σ H _ I h) fun v s1 ⟨x, H1, I1, r1, q1⟩ => ?_)
  obtain ⟨c, rfl, q1⟩ := q1
  cases r1
  refine wpAny_truthy_bool ?_
  cases c with
  | true => exact hb pins s1 σ H1 Q I1 q1
  | false => exact ⟨.bl false, H1, I1, rfl, q1⟩
/-- a if t else b -/
def tIf (t : TT) (ta tb : TE) : TE := fun σ H Q => t σ H fun c H1 => if c = true then ta σ H1 Q else tb σ H1 Q
theorem pe_ifExp {c : Expr} (hc : PT X c tA) (ha : PE X a ta) (hb : PE X b tb) : PE X (.IfExp c a b pos) (tIf tA ta tb) := by
  intro pins s σ H Q I h
  refine wpAny_IfExp (thn (hc pins s σ H _ I h) fun d s1 ⟨H1, I1, q1⟩ => ?_)
  cases d with
  | true => exact ha pins s1 σ H1 Q I1 q1
  | false => exact hb pins s1 σ H1 Q I1 q1
end
end L2

namespace L2
open PySem PySem.Spec PyProof.Rows

def SqL (K : PySem.W.Frag) (H : Hp) (a : Addr) (xs : List V) : Prop :=
  Rd H a (.lst xs) ∨
    ∃ (o : Obj) (its : Array Value) (n : Nat), K.lookup a = some o ∧ o.cls = .type "list" ∧ o.dict = none ∧ o.data = .seq its n ∧ its.size ≤ sizeLine ∧ Vals xs its.toList
def SqT (K : PySem.W.Frag) (H : Hp) (a : Addr) (xs : List V) : Prop :=
  Rd H a (.tup xs) ∨
    ∃ (o : Obj) (its : Array Value) (n : Nat), K.lookup a = some o ∧ o.cls = .type "tuple" ∧ o.data = .seq its n ∧ its.size ≤ sizeLine ∧ Vals xs its.toList
def absV : Value → Option V
  | .none => some .non
  | .bool b => some (.bl b)
  | .int i _ => some (.int i)
  | .str x _ => some (.str x)
  | .bytes b _ => some (.byt b)
  | .float b _ => some (.flt b)
  | .ref a => some (.ref a)
  | .type n => some (.ty n)
  | _ => none
theorem RelV.abs {x : V} {u : Value} (r : RelV x u) : absV u = some x := by
  cases x with
  | non => cases r; rfl
  | bl _ => cases r; rfl
  | int _ => obtain ⟨t, rfl⟩ := r; rfl
  | str _ => obtain ⟨t, rfl⟩ := r; rfl
  | byt _ => obtain ⟨t, rfl⟩ := r; rfl
  | flt _ => obtain ⟨t, rfl⟩ := r; rfl
  | ref _ => cases r; rfl
  | ty _ => cases r; rfl
theorem RelV.inj {x y : V} {u : Value} (r : RelV x u) (q : RelV y u) : x = y := Option.some.inj (r.abs.symm.trans q.abs)
theorem Vals.inj : ∀ {xs ys : List V} {us : List Value}, Vals xs us → Vals ys us → xs = ys
  | _, _, _, .nil, .nil => rfl
  | _, _, _, .cons r t, .cons r' t' => by rw [r.inj r', Vals.inj t t']
section
variable {X : Cx} {pins : List (Addr × Obj)} {σ : St} {H : Hp} {s : Shared} {a : Addr} {xs ys : List V}
theorem SqL.of {K : PySem.W.Frag} (h : H a = some (.lst xs)) : SqL K H a xs := .inl (.inl h)
theorem SqT.of {K : PySem.W.Frag} (h : H a = some (.tup xs)) : SqT K H a xs := .inl (.inl h)
theorem Inv.list (I : Inv X pins σ H s) (h : SqL X.K H a xs) : ∃ its : List Value, Vals xs its ∧ PlainL s.heap a its.toArray ∧ xs.length ≤ sizeLine := by
  rcases h with h | ⟨o, its, n, hk, hc, hd, hs, hz, r⟩
  · obtain ⟨z, its, n, r, e⟩ := h.ok I.hok
    exact ⟨its, r, ⟨_, n, e, rfl, rfl, rfl⟩, z⟩
  · refine ⟨its.toList, r, ⟨o, n, I.kIn a o hk, hc, hd, by simpa using hs⟩, ?_⟩
    have e := r.length
    simp only [Array.length_toList] at e
    omega
theorem Inv.tuple (I : Inv X pins σ H s) (h : SqT X.K H a xs) : ∃ its : List Value, Vals xs its ∧ IsTup s.heap a its.toArray ∧ xs.length ≤ sizeLine := by
  rcases h with h | ⟨o, its, n, hk, hc, hs, hz, r⟩
  · obtain ⟨z, its, r, p⟩ := h.ok I.hok
    exact ⟨its, r, p, z⟩
  · refine ⟨its.toList, r, ⟨o, I.kIn a o hk, hc, n, by simpa using hs⟩, ?_⟩
    have e := r.length
    simp only [Array.length_toList] at e
    omega
theorem Inv.list_inj (I : Inv X pins σ H s) (h : SqL X.K H a xs) (h' : SqL X.K H a ys) : xs = ys := by
  obtain ⟨its, r, ⟨o, n, e, _, _, d⟩, _⟩ := I.list h
  obtain ⟨its', r', ⟨o', n', e', _, _, d'⟩, _⟩ := I.list h'
  rw [e] at e'; cases e'
  rw [d] at d'
  injection d' with d1 _
  have : its = its' := by simpa using congrArg Array.toList d1
  subst this
  exact r.inj r'
theorem Inv.tuple_inj (I : Inv X pins σ H s) (h : SqT X.K H a xs) (h' : SqT X.K H a ys) : xs = ys := by
  obtain ⟨its, r, ⟨o, e, _, n, d⟩, _⟩ := I.tuple h
  obtain ⟨its', r', ⟨o', e', _, n', d'⟩, _⟩ := I.tuple h'
  rw [e] at e'; cases e'
  rw [d] at d'
  injection d' with d1 _
  have : its = its' := by simpa using congrArg Array.toList d1
  subst this
  exact r.inj r'
end

abbrev Cx.wish (X : Cx) (E : Value → Shared → Prop) : Cx := { X with xe := E }
/-- no exception leaves -/
abbrev Cx.nox (X : Cx) : Cx := X.wish fun _ _ => False
theorem Cx.Ok.wish {X : Cx} (ok : X.Ok) (E : Value → Shared → Prop) : (X.wish E).Ok :=
  ⟨ok.mod, ok.kind, ok.glob, ok.blt, ok.above, ok.inj, ok.has, ok.cab, ok.hd, ok.frames, ok.stk, ok.exf, ok.bs, ok.bsz, ok.noex, ok.exfs, ok.funs, ok.frf⟩
theorem Cx.Ok.unwish {X : Cx} {E : Value → Shared → Prop} (ok : (X.wish E).Ok) : X.Ok :=
  ⟨ok.mod, ok.kind, ok.glob, ok.blt, ok.above, ok.inj, ok.has, ok.cab, ok.hd, ok.frames, ok.stk, ok.exf, ok.bs, ok.bsz, ok.noex, ok.exfs, ok.funs, ok.frf⟩
section
variable {X : Cx} {pins : List (Addr × Obj)} {σ : St} {H : Hp} {s : Shared} {E : Value → Shared → Prop}
theorem Inv.wish (I : Inv X pins σ H s) (E : Value → Shared → Prop) : Inv (X.wish E) pins σ H s := ⟨I.ok.wish E, I.os, I.bare, I.base, I.loc, I.cell, I.free, I.freeC, I.pin, I.hok, I.len⟩
theorem Inv.unwish (I : Inv (X.wish E) pins σ H s) : Inv X pins σ H s := ⟨I.ok.unwish, I.os, I.bare, I.base, I.loc, I.cell, I.free, I.freeC, I.pin, I.hok, I.len⟩
theorem SP.unwish {D : Ends} {f : Flow} {s' : Shared} (h : SP (X.wish E) pins D f s') : SP X pins D f s' := by
  cases f with
  | next => obtain ⟨σ', H', I, q⟩ := h; exact ⟨σ', H', I.unwish, q⟩
  | brk => obtain ⟨σ', H', I, q⟩ := h; exact ⟨σ', H', I.unwish, q⟩
  | cont => obtain ⟨σ', H', I, q⟩ := h; exact ⟨σ', H', I.unwish, q⟩
  | ret u => obtain ⟨v, σ', H', I, r, q⟩ := h; exact ⟨v, σ', H', I.unwish, r, q⟩
theorem PE.nox {e : Expr} {t : TE} (h : PE X.nox e t) : PE X e t := fun pins s σ H Q I hw =>
  wpAny_mono (h pins s σ H Q (I.wish _) hw) (fun _ _ ⟨v, H', I', r, q⟩ => ⟨v, H', I'.unwish, r, q⟩) fun _ _ z => False.elim z
theorem PT.nox {e : Expr} {t : TT} (h : PT X.nox e t) : PT X e t := fun pins s σ H Q I hw =>
  wpAny_mono (h pins s σ H Q (I.wish _) hw) (fun _ _ ⟨H', I', q⟩ => ⟨H', I'.unwish, q⟩) fun _ _ z => False.elim z
theorem PSs.nox {st : List Stmt} {t : TS} (h : PSs X.nox st t) : PSs X st t := fun pins s σ H D I hw =>
  wpAny_mono (h pins s σ H D (I.wish _) hw) (fun _ _ q => q.unwish) fun _ _ z => False.elim z
end

section
variable {X : Cx} {st : Stmt} {rest : List Stmt} {t u : TS} {e : Expr} {te : TE} {pos : Pos}
def tNext : TS := fun D σ H => D.nx σ H
def tSeq (t u : TS) : TS := fun D σ H => t { D with nx := u D } σ H
theorem pss_nil : PSs X [] tNext := fun _ _ σ H _ I h => wpAny_execs_nil ⟨σ, H, I, h⟩
theorem pss_cons (h1 : PS X st t) (h2 : PSs X rest u) : PSs X (st :: rest) (tSeq t u) := by
  intro pins s σ H D I h
  refine wpAny_execs_cons (thn (h1 pins s σ H { D with nx := u D } I h) fun f s1 q => ?_)
  cases f with
  | next =>
    obtain ⟨σ', H', I', q⟩ := q
    exact h2 pins s1 σ' H' D I' q
  | ret v => exact q
  | brk => exact q
  | cont => exact q
theorem pss_one (h1 : PS X st t) : PSs X [st] t := by
  intro pins s σ H D I h
  refine wpAny_execs_cons (thn (h1 pins s σ H D I h) fun f s1 q => ?_)
  cases f with
  | next => exact wpAny_execs_nil q
  | ret v => exact q
  | brk => exact q
  | cont => exact q
def tRet (te : TE) : TS := fun D σ H => te σ H D.rt
theorem ps_ret (he : PE X e te) : PS X (.Return (some e) pos) (tRet te) := by
  intro pins s σ H D I h
  exact wpAny_Return_some (thn (he pins s σ H _ I h) fun v s1 ⟨x, H1, I1, r1, q1⟩ => ⟨x, σ, H1, I1, r1, q1⟩)
def tIfS (c : TT) (t u : TS) : TS := fun D σ H => c σ H fun b H1 => if b = true then t D σ H1 else u D σ H1
theorem ps_if {c : Expr} {a b : List Stmt} {tc : TT} (hc : PT X c tc) (ha : PSs X a t) (hb : PSs X b u) : PS X (.If c a b pos) (tIfS tc t u) := by
  intro pins s σ H D I h
  refine wpAny_If (thn (hc pins s σ H _ I h) fun d s1 ⟨H1, I1, q1⟩ => ?_)
  cases d with
  | true => exact ha pins s1 σ H1 D I1 q1
  | false => exact hb pins s1 σ H1 D I1 q1
end

abbrev TG := V → St → Hp → (St → Hp → Prop) → Prop
def PG (X : Cx) (target : Expr) (t : TG) : Prop :=
  ∀ (pins : List (Addr × Obj)) (s : Shared) (σ : St) (H : Hp) (v : V) (u : Value) (Q : St → Hp → Prop), Inv X pins σ H s → RelV v u → t v σ H Q →
    wpAny (model X.prog X.w) X.A (assign target X.env u) (fun _ s' => ∃ σ' H', Inv X pins σ' H' s' ∧ Q σ' H') X.xe s
/-- o[i] = v, by values -/
abbrev TSet := V → V → V → Hp → (Hp → Prop) → Prop
def PSet (X : Cx) (t : TSet) : Prop :=
  ∀ (pins : List (Addr × Obj)) (s : Shared) (σ : St) (H : Hp) (o i v : V) (ov iv u : Value) (Q : Hp → Prop), Inv X pins σ H s → RelV o ov → RelV i iv → RelV v u → t o i v H Q →
    wpAny (model X.prog X.w) X.A (setItem ov iv u) (fun _ s' => ∃ H', Inv X pins σ H' s' ∧ Q H') X.xe s
section
variable {X : Cx} {pos : Pos}
def gName (i : Nat) : TG := fun v σ H Q => Q (σ.set i (some v)) H
theorem pg_name {i : Nat} {x : Str} (hN : X.N.Nodup) (hi : X.N[i]? = some x) (hx : Loc X.env.scope x) (hf : X.fn x = true ∨ X.env.scope.names.lookup x = some .local := by first | exact .inl rfl | exact .inr rfl | assumption) : PG X (.Name x pos) (gName i) := by
  intro pins s σ H v u Q I r h
  exact wpAny_assign_Name (store_ok I hN hi hx r (fun s' I' => ⟨_, H, I', h⟩) hf)
/-- o[i] = .. -/
def gSub (to ti : TE) (t : TSet) : TG := fun v σ H Q => to σ H fun o H1 => ti σ H1 fun i H2 => t o i v H2 fun H3 => Q σ H3
theorem pg_sub {o i : Expr} {to ti : TE} {t : TSet} (ho : PE X o to) (hi : PE X i ti) (hs : PSet X t)
    (ha : ∀ v, assign (.Subscript o i pos) X.env v = (do
      let ov ← holding [v] (eval o X.env)
      let iv ← holding [v, ov] (eval i X.env)
      standAt pos
      holding [v, ov, iv] (setItem ov iv v)
      release [v, ov, iv] []) := by intro _; rfl) : PG X (.Subscript o i pos) (gSub to ti t) := by
  intro pins s σ H v u Q I r h
  rw [ha]
  refine wpAny_bind (wpAny_holding (thn (ho pins s σ H _ I h) fun ov s1 ⟨x, H1, I1, r1, q1⟩ => ?_))
  refine wpAny_bind (wpAny_holding (thn (hi pins s1 σ H1 _ I1 q1) fun iv s2 ⟨y, H2, I2, r2, q2⟩ => ?_))
  refine wpAny_bind (wpAny_standAt (wpAny_bind (wpAny_holding (thn (hs pins s2 σ H2 x y v ov iv u _ I2 r1 r2 r q2) fun _ s3 ⟨H3, I3, q3⟩ => ?_))))
  exact wpAny_release ⟨σ, H3, I3, q3⟩
/-- target = value -/
def tAsg (te : TE) (g : TG) : TS := fun D σ H => te σ H fun x H1 => g x σ H1 D.nx
theorem ps_asg {tg e : Expr} {te : TE} {g : TG} (he : PE X e te) (hg : PG X tg g) (hs : swapsWithSole [tg] e pos.line X.env = pure false := by rfl) (hw : swappedStores [tg] e X.env = pure none := by rfl)
    (h1 : (assignEach [tg] X.env).map (·.2) = [assign tg X.env] := by rfl) : PS X (.Assign [tg] e pos) (tAsg te g) := by
  intro pins s σ H D I h
  refine wpAny_Assign_stores (thn (he pins s σ H _ I h) fun v s1 ⟨x, H1, I1, r1, q1⟩ => ?_) hs hw
  rw [h1]
  exact thn (hg pins s1 σ H1 x v _ I1 r1 q1) fun _ s2 q => q
/-- name = value -/
theorem ps_set {i : Nat} {x : Str} {e : Expr} {te : TE} {pos' : Pos} (hN : X.N.Nodup) (hi : X.N[i]? = some x) (hx : Loc X.env.scope x) (he : PE X e te) (hs : swapsWith e (some (.Name x pos')) pos.line X.env = pure false := by rfl) (hf : X.fn x = true ∨ X.env.scope.names.lookup x = some .local := by first | exact .inl rfl | exact .inr rfl | assumption) :
    PS X (.Assign [.Name x pos'] e pos) (tAsg te (gName i)) := by
  intro pins s σ H D I h
  refine wpAny_Assign_Name (thn (he pins s σ H _ I h) fun v s1 ⟨y, H1, I1, r1, q1⟩ => ?_) hs
  exact store_ok I1 hN hi hx r1 (fun s2 I2 => ⟨_, H1, I2, q1⟩) hf
end

section
variable {X : Cx} {pos : Pos}
end

/-- at turn i: it yields x (the heap may grow), or it stops -/
structure It where
  go : Nat → Hp → Prop
  yld : Nat → Hp → V → Hp → Prop
  stop : Nat → Hp → Prop
/-- the iterator's own objects may turn: they are not the frame's, not pinned, younger than the entry (or a comprehension's own) -/
def FpOk (X : Cx) (pins : List (Addr × Obj)) (H : Hp) (b : Addr) : Prop :=
  H b = none ∧ b ≠ X.env.locals ∧ b ∉ X.fs ∧ (b ∈ X.ex ∨ X.s₀.heap.objs.size ≤ b) ∧ (∀ x c, X.env.cells.lookup x = some c → c ≠ b) ∧ ∀ p ∈ X.pn ++ pins, p.1 ≠ b
theorem Inv.fpOk {X : Cx} {pins : List (Addr × Obj)} {σ : St} {H H' : Hp} {s : Shared} {b : Addr} (I : Inv X pins σ H s) (hb : s.heap.objs.size ≤ b) (hn : H' b = none) : FpOk X pins H' b := by
  refine ⟨hn, Nat.ne_of_gt (Nat.lt_of_lt_of_le I.lt hb), I.nofs hb, .inr (Nat.le_trans I.sz hb), fun x c e z => ?_, fun p hp z => ?_⟩
  · obtain ⟨v, q⟩ := I.cell x c e
    exact absurd (Nat.lt_of_lt_of_le q.lt (by rw [z]; exact hb)) (Nat.lt_irrefl _)
  · exact absurd (Nat.lt_of_lt_of_le (Heap.lt_size (I.pin p hp).1) (by rw [z]; exact hb)) (Nat.lt_irrefl _)
structure Turn (P : Program) (w : World) (K : PySem.W.Frag) (tg : Expr) (J : It) (fp : List Addr) (it : Addr) (tn : Nat → Heap → Prop) : Prop where
  mem : it ∈ fp
  obj : ∀ i h, tn i h → ∀ b ∈ fp, ∃ o, h.get? b = some o ∧ ∀ v, o.data ≠ .cell v
  keep : ∀ i h h', tn i h → (∀ b ∈ fp, ∀ o, h.get? b = some o → h'.get? b = some o) → tn i h'
  item : ∀ (X : Cx), X.prog = P → X.w = w → X.K = K → X.calm = true → ∀ (i : Nat) (pins : List (Addr × Obj)) (s : Shared) (σ : St) (H : Hp) (E : Value → Shared → Prop), Inv X pins σ H s → (∀ b ∈ fp, FpOk X pins H b) → tn i s.heap → J.go i H →
    wpAny (model P w) X.A (pyNext (.ref it)) (fun r s1 => ∃ u, r = some u ∧
      wpAny (model P w) X.A (letOwnedTupleGo tg (.ref it) u) (fun _ s2 => ∃ x H', Inv X pins σ H' s2 ∧ RelV x u ∧ J.yld i H x H' ∧ tn (i + 1) s2.heap ∧ ∀ b ∈ fp, H' b = none) E s1) E s
  done : ∀ (X : Cx), X.prog = P → X.w = w → X.K = K → X.calm = true → ∀ (i : Nat) (pins : List (Addr × Obj)) (s : Shared) (σ : St) (H : Hp) (E : Value → Shared → Prop), Inv X pins σ H s → (∀ b ∈ fp, FpOk X pins H b) → tn i s.heap → J.stop i H →
    wpAny (model P w) X.A (pyNext (.ref it)) (fun r s1 => r = none ∧ Inv X pins σ H s1) E s
  self : ∀ (A : Around) (i : Nat) (s : Shared) (Q : Value → Shared → Prop) (E : Value → Shared → Prop), tn i s.heap → Q (.ref it) s → wpAny (model P w) A (pyIter (.ref it)) Q E s
abbrev TI := St → Hp → (It → Hp → Prop) → Prop
/-- an iterator has come -/
def PIE (X : Cx) (pins : List (Addr × Obj)) (σ : St) (tg : Expr) (R : It → Hp → Prop) (itv : Value) (s2 : Shared) : Prop :=
  ∃ (it : Addr) (fp : List Addr) (tn : Nat → Heap → Prop) (J : It) (H' : Hp), itv = .ref it ∧ Inv X pins σ H' s2 ∧ Turn X.prog X.w X.K tg J fp it tn ∧ tn 0 s2.heap ∧ (∀ b ∈ fp, FpOk X pins H' b) ∧ R J H'
def PI (X : Cx) (tg iter : Expr) (wi : TI) : Prop :=
  ∀ (pins : List (Addr × Obj)) (s : Shared) (σ : St) (H : Hp) (R : It → Hp → Prop), Inv X pins σ H s → wi σ H R →
    wpAny (model X.prog X.w) X.A (eval iter X.env) (fun v s1 => wpAny (model X.prog X.w) X.A (pyIter v) (PIE X pins σ tg R) X.xe s1) X.xe s

/-- the step ahead of the store is nothing for an iterator that keeps no tuple -/
theorem go_of {M : Model} {A : Around} {E : Value → Shared → Prop} {s : Shared} {tg : Expr} {it : Addr} {u : Value} {o : Obj} {n : String} {vs : Array Value} {Q : Unit → Shared → Prop} (ho : s.heap.get? it = some o) (hc : o.cls = .type n) (hd : o.data = .fields vs)
    (hn : ["enumerate", "zip", "dict_itemiterator", "dict_reverseitemiterator", "odict_iterator", "itertools.zip_longest", "itertools.pairwise"].contains n = false) (hQ : Q () s) : wpAny M A (letOwnedTupleGo tg (.ref it) u) Q E s := by
  unfold letOwnedTupleGo
  cases tg <;> first
    | exact wpAny_pure hQ
    | (cases u <;> first
        | exact wpAny_pure hQ
        | (refine wpAny_bind (wpAny_load ho ?_)
           rw [hc, hd]
           show wpAny M A (if (["enumerate", "zip", "dict_itemiterator", "dict_reverseitemiterator", "odict_iterator", "itertools.zip_longest", "itertools.pairwise"].contains n && vs[0]? == some (rawInt _)) = true then _ else _) Q E s
           rw [if_neg (by intro h; rw [hn, Bool.false_and] at h; cases h)]
           exact wpAny_pure hQ))

/-- the list at a, as it stands at each turn (a loop may append to it) -/
def Itl (K : PySem.W.Frag) (a : Addr) : It :=
  ⟨fun i H => ∃ xs x, SqL K H a xs ∧ xs[i]? = some x, fun i H x H' => H' = H ∧ ∀ xs, SqL K H a xs → xs[i]? = some x, fun i H => ∃ xs, SqL K H a xs ∧ xs.length ≤ i⟩
def Itt (K : PySem.W.Frag) (a : Addr) : It :=
  ⟨fun i H => ∃ xs x, SqT K H a xs ∧ xs[i]? = some x, fun i H x H' => H' = H ∧ ∀ xs, SqT K H a xs → xs[i]? = some x, fun i H => ∃ xs, SqT K H a xs ∧ xs.length ≤ i⟩
theorem turn_list {P : Program} {w : World} {K : PySem.W.Frag} {tg : Expr} (a it : Addr) : Turn P w K tg (Itl K a) [it] it (fun i h => h.IsListIter it a i) where
  mem := by simp
  obj := fun i h st b hb => by
    have e : b = it := by simpa using hb
    subst e
    obtain ⟨o, e, c, d⟩ := st
    exact ⟨o, e, fun v z => by rw [d] at z; cases z⟩
  keep := fun i h h' st k => st.at fun o e => k it (by simp) o e
  item := by
    intro X hP hw hK hc i pins s σ H E I hf st hg
    subst hP hw hK
    obtain ⟨xs, x, hq, hx⟩ := hg
    obtain ⟨its, rv, p, hz⟩ := I.list hq
    obtain ⟨u, hu, ru⟩ := rv.get hx
    obtain ⟨f0, f1, f2, f3, f4, f5⟩ := hf it (by simp)
    refine wpAny_pyNext_list_item st p.isList (x := u) (by simpa using hu) fun h' st' sb => ?_
    have I1 : Inv X pins σ H { s with heap := h' } := I.turned (t' := s.toks) (fun b o hb e => (sb.2 b hb).trans e) f0 f1 f3 f4 f5
    obtain ⟨o, e, c, d⟩ := id st'
    exact ⟨u, rfl, go_of (s := { s with heap := h' }) e c d (by decide) ⟨x, H, I1, ru, ⟨rfl, fun ys hy => by rw [I.list_inj hy hq]; exact hx⟩, st', fun b hb => (hf b hb).1⟩⟩
  done := by
    intro X hP hw hK hc i pins s σ H E I hf st hg
    subst hP hw hK
    obtain ⟨xs, hq, hx⟩ := hg
    obtain ⟨its, rv, p, hz⟩ := I.list hq
    obtain ⟨f0, f1, f2, f3, f4, f5⟩ := hf it (by simp)
    have hl := rv.length
    exact wpAny_pyNext_list_end (I.ok.hd hc) st p.isList (by simp; omega) fun h' eb => ⟨rfl, I.turned (t' := s.toks) (fun b o hb e => eb b o hb e) f0 f1 f3 f4 f5⟩
  self := fun _ _ _ _ _ st h => wpAny_pyIter_listiter st h
theorem turn_tuple {P : Program} {w : World} {K : PySem.W.Frag} {tg : Expr} (a it : Addr) : Turn P w K tg (Itt K a) [it] it (fun i h => h.IsTupleIter it a i) where
  mem := by simp
  obj := fun i h st b hb => by
    have e : b = it := by simpa using hb
    subst e
    obtain ⟨o, e, c, d⟩ := st
    exact ⟨o, e, fun v z => by rw [d] at z; cases z⟩
  keep := fun i h h' st k => st.at fun o e => k it (by simp) o e
  item := by
    intro X hP hw hK hc i pins s σ H E I hf st hg
    subst hP hw hK
    obtain ⟨xs, x, hq, hx⟩ := hg
    obtain ⟨its, rv, p, hz⟩ := I.tuple hq
    obtain ⟨u, hu, ru⟩ := rv.get hx
    obtain ⟨f0, f1, f2, f3, f4, f5⟩ := hf it (by simp)
    refine wpAny_pyNext_tuple_item st (show s.heap.IsTuple a its.toArray from p) (x := u) (by simpa using hu) fun h' st' sb => ?_
    have I1 : Inv X pins σ H { s with heap := h' } := I.turned (t' := s.toks) (fun b o hb e => (sb.2 b hb).trans e) f0 f1 f3 f4 f5
    obtain ⟨o, e, c, d⟩ := id st'
    exact ⟨u, rfl, go_of (s := { s with heap := h' }) e c d (by decide) ⟨x, H, I1, ru, ⟨rfl, fun ys hy => by rw [I.tuple_inj hy hq]; exact hx⟩, st', fun b hb => (hf b hb).1⟩⟩
  done := by
    intro X hP hw hK hc i pins s σ H E I hf st hg
    subst hP hw hK
    obtain ⟨xs, hq, hx⟩ := hg
    obtain ⟨its, rv, p, hz⟩ := I.tuple hq
    obtain ⟨f0, f1, f2, f3, f4, f5⟩ := hf it (by simp)
    have hl := rv.length
    exact wpAny_pyNext_tuple_end (I.ok.hd hc) st (show s.heap.IsTuple a its.toArray from p) (by simp; omega) fun h' eb => ⟨rfl, I.turned (t' := s.toks) (fun b o hb e => eb b o hb e) f0 f1 f3 f4 f5⟩
  self := fun _ _ _ _ _ st h => wpAny_pyIter_tupleiter st h
end L2

namespace L2
open PySem PySem.Spec PyProof.Rows
section
variable {X : Cx} {tg : Expr}
/-- W: the invariant by the turn and a measure; N: what the body is to reach -/
def tFor (wi : TI) (g : TG) (tb : TS) : TS := fun D σ H => wi σ H fun J H1 => ∃ W : Nat → Nat → St → Hp → Prop, (∃ m, W 0 m σ H1) ∧ ∀ i m σ H, W i m σ H →
  (J.stop i H ∧ D.nx σ H) ∨ (J.go i H ∧ ∃ N : St → Hp → Prop, (∀ σ' H', N σ' H' → ∃ m', m' < m ∧ W (i + 1) m' σ' H') ∧ ∀ x H', J.yld i H x H' → g x σ H' fun σ2 H2 => tb { D with nx := N, ct := N, bk := D.nx } σ2 H2)
/-- the records at fp as they stand -/
def pinsAt (fp : List Addr) (h : Heap) : List (Addr × Obj) := fp.filterMap fun b => (h.get? b).map fun o => (b, o)
theorem mem_pinsAt {fp : List Addr} {h : Heap} {b : Addr} {o : Obj} (hb : b ∈ fp) (e : h.get? b = some o) : (b, o) ∈ pinsAt fp h := List.mem_filterMap.mpr ⟨b, hb, by rw [e]; rfl⟩
theorem of_pinsAt {fp : List Addr} {h : Heap} {p : Addr × Obj} (hp : p ∈ pinsAt fp h) : p.1 ∈ fp ∧ h.get? p.1 = some p.2 := by
  obtain ⟨b, hb, e⟩ := List.mem_filterMap.mp hp
  cases q : h.get? b with
  | none => rw [q] at e; cases e
  | some o =>
    rw [q] at e
    have e' : (b, o) = p := Option.some.inj e
    subst e'
    exact ⟨hb, q⟩
theorem Inv.pinned {pins : List (Addr × Obj)} {σ : St} {H : Hp} {s : Shared} {fp : List Addr} (I : Inv X pins σ H s) (hf : ∀ b ∈ fp, FpOk X pins H b) (ho : ∀ b ∈ fp, ∃ o, s.heap.get? b = some o ∧ ∀ v, o.data ≠ .cell v) : Inv X (pins ++ pinsAt fp s.heap) σ H s :=
  I.pins_of fun p hp => (List.mem_append.mp hp).elim (fun z => I.pin p (List.mem_append_right _ z)) fun z => by
    obtain ⟨hb, e⟩ := of_pinsAt z
    obtain ⟨f0, f1, f2, _⟩ := hf p.1 hb
    obtain ⟨o, e', d⟩ := ho p.1 hb
    rw [e] at e'; cases e'
    exact ⟨e, f0, f1, f2, d⟩
theorem Inv.unpinned {pins pl : List (Addr × Obj)} {σ : St} {H : Hp} {s : Shared} (I : Inv X (pins ++ pl) σ H s) : Inv X pins σ H s := I.pins_of fun p hp => I.pin p (List.mem_append_right _ (List.mem_append_left _ hp))
theorem ps_for {iter : Expr} {body : List Stmt} {wi : TI} {g : TG} {tb : TS} {pos : Pos} (hp : PassesOwn (model X.prog X.w) X.A X.env X.xe) (hc : X.calm = true) (hi : PI X tg iter wi) (hg : PG X tg g) (hb : PSs X body tb)
    (hs : ∀ x, foldedSetIterable iter X.env x = pure x := by intro _; rfl) : PS X (.For tg iter body [] pos) (tFor wi g tb) := by
  intro pins s σ H D I h
  refine wpAny_For (thn (hi pins s σ H _ I h) fun v s1 h1 => thn h1 fun itv s2 h2 => ?_) hs
  obtain ⟨it, fp, tn, J, H2, e, I2, T, st2, f2, W, ⟨m0, w0⟩, turn⟩ := h2
  subst e
  -- what stays true of the iterator's objects through the loop
  have stat : ∀ {H' : Hp}, (∀ b ∈ fp, H' b = none) → ∀ b ∈ fp, FpOk X pins H' b := fun hn b hb => ⟨hn b hb, (f2 b hb).2⟩
  refine codeAny_forLoop_any (fun n s' => ∃ i σ' H', Inv X pins σ' H' s' ∧ tn i s'.heap ∧ (∀ b ∈ fp, H' b = none) ∧ W i n σ' H') ?_ m0 ⟨0, σ, H2, I2, st2, fun b hb => (f2 b hb).1, w0⟩
  rintro n s3 ⟨i, σ3, H3, I3, st3, fr3, w3⟩
  rcases turn i n σ3 H3 w3 with ⟨stop, qn⟩ | ⟨go, N, hN, step⟩
  · refine wpAny_passesOwn hp (thn (T.done X rfl rfl rfl hc i pins s3 σ3 H3 X.xe I3 (stat fr3) st3 stop) fun r s4 ⟨hr, I4⟩ => ?_)
    subst hr
    exact wpAny_execs_nil ⟨σ3, H3, I4, qn⟩
  · refine wpAny_passesOwn hp (thn (T.item X rfl rfl rfl hc i pins s3 σ3 H3 X.xe I3 (stat fr3) st3 go) fun r s4 ⟨u, hr, h4⟩ => ?_)
    subst hr
    refine wpAny_passesOwn hp (thn h4 fun _ s5 ⟨x, H5, I5, r5, y5, st5, fr5⟩ => ?_)
    have I5' := I5.pinned (stat fr5) (T.obj _ _ st5)
    refine wpAny_passesOwn hp (thn (hg _ s5 σ3 H5 x u _ I5' r5 (step x H5 y5)) fun _ s6 ⟨σ6, H6, I6, q6⟩ => ?_)
    refine wpAny_passesOwn hp (thn (hb _ s6 σ6 H6 _ I6 q6) fun f s7 q7 => ?_)
    have again : ∀ {σ7 : St} {H7 : Hp}, Inv X (pins ++ pinsAt fp s5.heap) σ7 H7 s7 → N σ7 H7 → ∃ m, m < n ∧ ∃ i σ' H', Inv X pins σ' H' s7 ∧ tn i s7.heap ∧ (∀ b ∈ fp, H' b = none) ∧ W i m σ' H' := fun {σ7 H7} I7 n7 => by
      obtain ⟨m', hm, w7⟩ := hN σ7 H7 n7
      refine ⟨m', hm, i + 1, σ7, H7, I7.unpinned, T.keep _ _ _ st5 fun b hb o e => (I7.pin (b, o) (List.mem_append_right _ (List.mem_append_right _ (mem_pinsAt hb e)))).1, fun b hb => ?_, w7⟩
      obtain ⟨o, e, d⟩ := T.obj _ _ st5 b hb
      exact (I7.pin (b, o) (List.mem_append_right _ (List.mem_append_right _ (mem_pinsAt hb e)))).2.1
    cases f with
    | next => obtain ⟨σ7, H7, I7, n7⟩ := q7; exact again I7 n7
    | cont => obtain ⟨σ7, H7, I7, n7⟩ := q7; exact again I7 n7
    | brk => obtain ⟨σ7, H7, I7, q7⟩ := q7; exact ⟨σ7, H7, I7.unpinned, q7⟩
    | ret v => obtain ⟨x7, σ7, H7, I7, r7, q7⟩ := q7; exact ⟨x7, σ7, H7, I7.unpinned, r7, q7⟩
end

end L2

namespace L2
open PySem PySem.Spec PyProof.Rows

abbrev R2 := V → V → Hp → VK → Prop
/-- a two-place operation on values: f is binaryOp op, inplaceOp op or compareOp op -/
def OpR (X : Cx) (f : Value → Value → Sem Value) (r : R2) : Prop :=
  ∀ (pins : List (Addr × Obj)) (s : Shared) (σ : St) (H : Hp) (x y : V) (v u : Value) (Q : VK), Inv X pins σ H s → RelV x v → RelV y u → r x y H Q →
    wpAny (model X.prog X.w) X.A (f v u) (EP X pins σ Q) X.xe s
/-- a one-place operation -/
def UnR (X : Cx) (f : Value → Sem Value) (r : V → Hp → VK → Prop) : Prop :=
  ∀ (pins : List (Addr × Obj)) (s : Shared) (σ : St) (H : Hp) (x : V) (v : Value) (Q : VK), Inv X pins σ H s → RelV x v → r x H Q →
    wpAny (model X.prog X.w) X.A (f v) (EP X pins σ Q) X.xe s
/-- a call of a value that is known (a builtin, a type) with values -/
def CallR (X : Cx) (f : Value) (r : List V → Hp → VK → Prop) : Prop :=
  ∀ (pins : List (Addr × Obj)) (s : Shared) (σ : St) (H : Hp) (xs : List V) (us : List Value) (Q : VK), Inv X pins σ H s → Vals xs us → r xs H Q →
    wpAny (model X.prog X.w) X.A (call f us) (EP X pins σ Q) X.xe s
def tOp (r : R2) (ta tb : TE) : TE := fun σ H Q => ta σ H fun x H1 => tb σ H1 fun y H2 => r x y H2 Q
def tUn (r : V → Hp → VK → Prop) (ta : TE) : TE := fun σ H Q => ta σ H fun x H1 => r x H1 Q
/-- ints in, under C, and a value out -/
def rI (C : Int → Int → Prop) (g : Int → Int → V) : R2 := fun x y H Q => ∃ i j, x = .int i ∧ y = .int j ∧ C i j ∧ Q (g i j) H
def rI0 (g : Int → Int → V) : R2 := fun x y H Q => ∃ i j, x = .int i ∧ y = .int j ∧ Q (g i j) H
def rU (g : Int → V) : V → Hp → VK → Prop := fun x H Q => ∃ i, x = .int i ∧ Q (g i) H

section
variable {X : Cx} {a b c : Expr} {ta tb tc : TE} {pos : Pos}

theorem binT (ha : PE X a ta) (hb : PE X b tb) {pins : List (Addr × Obj)} {s : Shared} {σ : St} {H : Hp} {R : V → V → Hp → Prop} (I : Inv X pins σ H s)
    (h : ta σ H fun x H1 => tb σ H1 fun y H2 => R x y H2) {Q : Value → Shared → Prop} {f : Value → Value → Sem Value}
    (hf : ∀ v u s2 x y H2, Inv X pins σ H2 s2 → RelV x v → RelV y u → R x y H2 → wpAny (model X.prog X.w) X.A (f v u) Q X.xe s2) :
    wpAny (model X.prog X.w) X.A (eval a X.env) (fun v s₁ => wpAny (model X.prog X.w) X.A (eval b X.env) (fun u s₂ => wpAny (model X.prog X.w) X.A (f v u) Q X.xe s₂) X.xe s₁) X.xe s := by
  refine thn (ha pins s σ H _ I h) fun v s1 ⟨x, H1, I1, r1, q1⟩ => ?_
  refine thn (hb pins s1 σ H1 _ I1 q1) fun u s2 ⟨y, H2, I2, r2, q2⟩ => ?_
  exact hf v u s2 x y H2 I2 r1 r2 q2

theorem pe_op {op : Operator} {r : R2} (ho : OpR X (binaryOp op) r) (ha : PE X a ta) (hb : PE X b tb) : PE X (.BinOp a op b pos) (tOp r ta tb) := by
  intro pins s σ H Q I h
  exact wpAny_BinOp (binT ha hb I h fun v u s2 x y H2 I2 rx ry q => ho pins s2 σ H2 x y v u Q I2 rx ry q)
theorem pe_un {op : UnaryOp} {r : V → Hp → VK → Prop} (ho : UnR X (unaryOp op) r) (ha : PE X a ta) : PE X (.UnaryOp op a pos) (tUn r ta) := by
  intro pins s σ H Q I h
  exact UnaryOp_ (thn (ha pins s σ H _ I h) fun v s1 ⟨x, H1, I1, r1, q1⟩ => ho pins s1 σ H1 x v Q I1 r1 q1)
theorem opI {f : Value → Value → Sem Value} {C : Int → Int → Prop} {g : Int → Int → Int}
    (rule : ∀ (i j : Int) (t u : Tok) (s : Shared) (Q : Value → Shared → Prop) (E : Value → Shared → Prop), C i j → Q (.int (g i j) s.toks) { s with toks := s.toks + 1 } → wpAny (model X.prog X.w) X.A (f (.int i t) (.int j u)) Q E s) :
    OpR X f (rI C fun i j => .int (g i j)) := by
  intro pins s σ H x y v u Q I rx ry h
  obtain ⟨i, j, rfl, rfl, hc, q⟩ := h
  obtain ⟨t, rfl⟩ := rx
  obtain ⟨t', rfl⟩ := ry
  exact rule i j t t' s _ _ hc ⟨.int (g i j), H, I.tok _, ⟨_, rfl⟩, q⟩
theorem opI0 {f : Value → Value → Sem Value} {g : Int → Int → Int}
    (rule : ∀ (i j : Int) (t u : Tok) (s : Shared) (Q : Value → Shared → Prop) (E : Value → Shared → Prop), Q (.int (g i j) s.toks) { s with toks := s.toks + 1 } → wpAny (model X.prog X.w) X.A (f (.int i t) (.int j u)) Q E s) :
    OpR X f (rI0 fun i j => .int (g i j)) := by
  intro pins s σ H x y v u Q I rx ry h
  obtain ⟨i, j, rfl, rfl, q⟩ := h
  obtain ⟨t, rfl⟩ := rx
  obtain ⟨t', rfl⟩ := ry
  exact rule i j t t' s _ _ ⟨.int (g i j), H, I.tok _, ⟨_, rfl⟩, q⟩
theorem opB0 {f : Value → Value → Sem Value} {g : Int → Int → Bool}
    (rule : ∀ (i j : Int) (t u : Tok) (s : Shared) (Q : Value → Shared → Prop) (E : Value → Shared → Prop), Q (.bool (g i j)) s → wpAny (model X.prog X.w) X.A (f (.int i t) (.int j u)) Q E s) :
    OpR X f (rI0 fun i j => .bl (g i j)) := by
  intro pins s σ H x y v u Q I rx ry h
  obtain ⟨i, j, rfl, rfl, q⟩ := h
  obtain ⟨t, rfl⟩ := rx
  obtain ⟨t', rfl⟩ := ry
  exact rule i j t t' s _ _ ⟨.bl (g i j), H, I, rfl, q⟩

def CMul (i j : Int) : Prop := (-(2 ^ 64) < i ∧ i < 2 ^ 64) ∨ (-(2 ^ 64) < j ∧ j < 2 ^ 64)
theorem CMul.ok {i j : Int} (h : CMul i j) : IntMulOk i j := by
  rcases h with ⟨h1, h2⟩ | ⟨h1, h2⟩
  · exact .of_left (intBits_le_64 h1 h2)
  · exact .of_right (intBits_le_64 h1 h2)
theorem op_add : OpR X (binaryOp .Add) (rI0 fun i j => .int (i + j)) := opI0 fun _ _ _ _ _ _ _ q => add_int q
theorem op_sub : OpR X (binaryOp .Sub) (rI0 fun i j => .int (i - j)) := opI0 fun _ _ _ _ _ _ _ q => sub_int q
/-- % by a positive divisor of any size -/
theorem op_mod : OpR X (binaryOp .Mod) (rI (fun _ j => 0 < j) fun i j => .int (i % j)) := opI fun i j _ _ _ _ _ hc q => by
  have h1 : (0 : Int) < j := hc
  exact mod_int' (by omega) (by rw [Int.fmod_eq_emod_of_nonneg i (by omega)]; exact q)
theorem unI {f : Value → Sem Value} {g : Int → Int}
    (rule : ∀ (i : Int) (t : Tok) (s : Shared) (Q : Value → Shared → Prop) (E : Value → Shared → Prop), Q (.int (g i) s.toks) { s with toks := s.toks + 1 } → wpAny (model X.prog X.w) X.A (f (.int i t)) Q E s) :
    UnR X f (rU fun i => .int (g i)) := by
  intro pins s σ H x v Q I rx h
  obtain ⟨i, rfl, q⟩ := h
  obtain ⟨t, rfl⟩ := rx
  exact rule i t s _ _ ⟨.int (g i), H, I.tok _, ⟨_, rfl⟩, q⟩
theorem un_neg : UnR X (unaryOp .USub) (rU fun i => .int (-i)) := unI fun _ _ _ _ _ q => neg_int q
end

section
variable {X : Cx} {a b c : Expr} {ta tb tc : TE} {pos : Pos}
theorem fin_bl {pins : List (Addr × Obj)} {σ : St} {H : Hp} {s : Shared} {Q : VK} {k k' : Bool} (I : Inv X pins σ H s) (q : Q (.bl k) H) (e : k = k') : EP X pins σ Q (.bool k') s := by
  subst e
  exact ⟨.bl k, H, I, rfl, q⟩
theorem op_lt : OpR X (compareOp .Lt) (rI0 fun i j => .bl (decide (i < j))) := opB0 fun _ _ _ _ _ _ _ q => lt_int q
theorem op_le : OpR X (compareOp .LtE) (rI0 fun i j => .bl (decide (i ≤ j))) := opB0 fun _ _ _ _ _ _ _ q => le_int q
theorem op_gt : OpR X (compareOp .Gt) (rI0 fun i j => .bl (decide (j < i))) := opB0 fun _ _ _ _ _ _ _ q => gt_int q
/-- the one string within the other -/
theorem op_in_str : OpR X (compareOp .In) (fun x y H Q => ∃ i j, x = .str i ∧ y = .str j ∧ Q (.bl (!(Builtin.Str.occurrences j i 0 j.length 1).isEmpty)) H) := by
  intro pins s σ H x y v u Q I rx ry h
  obtain ⟨i, j, rfl, rfl, q⟩ := h
  obtain ⟨t, rfl⟩ := rx
  obtain ⟨t', rfl⟩ := ry
  exact in_str (fin_bl I q rfl)

theorem op_notin_str : OpR X (compareOp .NotIn) (fun x y H Q => ∃ i j, x = .str i ∧ y = .str j ∧ Q (.bl (!(!(Builtin.Str.occurrences j i 0 j.length 1).isEmpty))) H) := by
  intro pins s σ H x y v u Q I rx ry h
  obtain ⟨i, j, rfl, rfl, q⟩ := h
  obtain ⟨t, rfl⟩ := rx
  obtain ⟨t', rfl⟩ := ry
  exact notIn_str (fin_bl I q rfl)
/-- two rules for one operation: by cases -/
theorem OpR.or {f : Value → Value → Sem Value} {r r' : R2} (h : OpR X f r) (h' : OpR X f r') : OpR X f (fun x y H Q => r x y H Q ∨ r' x y H Q) := by
  intro pins s σ H x y v u Q I rx ry q
  rcases q with q | q
  · exact h pins s σ H x y v u Q I rx ry q
  · exact h' pins s σ H x y v u Q I rx ry q

theorem nomark (b : Expr) {op : CmpOp} (h : op ≠ .In := by decide) (h2 : op ≠ .NotIn := by decide) : behindInMarks op b = false := by
  have e1 : (op == CmpOp.In) = false := by cases op <;> first | rfl | exact absurd rfl h
  have e2 : (op == CmpOp.NotIn) = false := by cases op <;> first | rfl | exact absurd rfl h2
  cases b <;> simp [behindInMarks, e1, e2]
/-- a comparison as a value; hm: nomark b, or (for in, not in) by with_unfolding_all rfl -/
theorem pe_cmpR {op : CmpOp} {r : R2} (ho : OpR X (compareOp op) r) (ha : PE X a ta) (hb : PE X b tb) (hm : behindInMarks op b = false) : PE X (.Compare a [op] [b] pos) (tOp r ta tb) := by
  intro pins s σ H Q I h
  exact wpAny_Compare1 (binT ha hb I h fun v u s2 x y H2 I2 rx ry q => ho pins s2 σ H2 x y v u Q I2 rx ry q) hm
/-- a reading of a value as a test -/
def tTest (t : TE) : TT := fun σ H Q => t σ H fun x H' => ∃ k, x = .bl k ∧ Q k H'
theorem pt_cmpR {op : CmpOp} {r : R2} (ho : OpR X (compareOp op) r) (ha : PE X a ta) (hb : PE X b tb) (hm : behindInMarks op b = false) : PT X (.Compare a [op] [b] pos) (tTest (tOp r ta tb)) := by
  intro pins s σ H Q I h
  refine wpAny_isTrue_Compare1 (thn (ha pins s σ H _ I h) fun v s1 ⟨x, H1, I1, r1, q1⟩ => thn (hb pins s1 σ H1 _ I1 q1) fun u s2 ⟨y, H2, I2, r2, q2⟩ =>
    thn (ho pins s2 σ H2 x y v u _ I2 r1 r2 q2) fun c s3 ⟨z, H3, I3, r3, k, e, q3⟩ => ?_) hm
  subst e
  cases r3
  exact wpAny_truthy_bool ⟨H3, I3, q3⟩
theorem line63 : (sizeLine : Nat) < 2 ^ 63 := by rw [sizeLine_eq]; decide
theorem op_add_str : OpR X (binaryOp .Add) (fun x y H Q => ∃ i j, x = .str i ∧ y = .str j ∧ i.length + j.length ≤ sizeLine ∧ Q (.str (i ++ j)) H) := by
  intro pins s σ H x y v u Q I rx ry h
  obtain ⟨i, j, rfl, rfl, hz, q⟩ := h
  obtain ⟨t, rfl⟩ := rx
  obtain ⟨t', rfl⟩ := ry
  exact add_str (fun t' tk => ⟨.str (i ++ j), H, I.tok _, ⟨_, rfl⟩, q⟩) hz
theorem vals1 {x : V} {us : List Value} (r : Vals [x] us) : ∃ u, us = [u] ∧ RelV x u := by
  cases r with
  | cons r1 r2 => cases r2; exact ⟨_, rfl, r1⟩
theorem vals2 {x y : V} {us : List Value} (r : Vals [x, y] us) : ∃ u w', us = [u, w'] ∧ RelV x u ∧ RelV y w' := by
  cases r with
  | cons r1 r2 =>
    cases r2 with
    | cons r3 r4 => cases r4; exact ⟨_, _, rfl, r1, r3⟩
theorem call_max2 (hc : X.calm = true) : CallR X (.builtin "max") (fun xs H Q => ∃ i j, xs = [.int i, .int j] ∧ Q (.int (if j > i then j else i)) H) := by
  intro pins s σ H xs us Q I r h
  obtain ⟨i, j, rfl, q⟩ := h
  obtain ⟨u, w', rfl, ⟨t, rfl⟩, ⟨t', rfl⟩⟩ := vals2 r
  refine max_two_ints (I.ok.hd hc) fun h' tk k => ⟨_, H, I.kept k, ?_, q⟩
  by_cases hj : j > i
  · rw [if_pos hj, if_pos hj]; exact ⟨_, rfl⟩
  · rw [if_neg hj, if_neg hj]; exact ⟨_, rfl⟩
theorem call_int1 : CallR X (.type "int") (fun xs H Q => (∃ i, xs = [.int i] ∧ Q (.int i) H) ∨ ∃ k, xs = [.bl k] ∧ Q (.int (if k then 1 else 0)) H) := by
  intro pins s σ H xs us Q I r h
  rcases h with ⟨i, rfl, q⟩ | ⟨k, rfl, q⟩
  · obtain ⟨u, rfl, t, rfl⟩ := vals1 r
    exact call_int_int ⟨.int i, H, I, ⟨_, rfl⟩, q⟩
  · obtain ⟨u, rfl, r1⟩ := vals1 r
    cases r1
    exact call_int_bool ⟨.int (if k then 1 else 0), H, I.tok _, ⟨_, rfl⟩, q⟩
theorem call_str_int : CallR X (.type "str") (fun xs H Q => ∃ i, xs = [.int i] ∧ i.natAbs.log2 < 1920 ∧ Q (.str (toString i)) H) := by
  intro pins s σ H xs us Q I r h
  obtain ⟨i, rfl, hz, q⟩ := h
  obtain ⟨u, rfl, t, rfl⟩ := vals1 r
  exact PySem.P.str_of_int hz ⟨.str _, H, I.tok _, ⟨_, rfl⟩, q⟩
end
end L2

namespace L2
open PySem PySem.Spec PyProof.Rows

structure ObjM (h : Heap) (x dx C : Addr) (mA : Str → Option Value) : Prop where
  obj : h.get? x = some (PySem.W.instObj C dx)
  ns : h.Ns1 dx mA
  ne : dx ≠ x

theorem lookIn_ns {h : Heap} {dx : Addr} {mA : Str → Option Value} (n : h.Ns1 dx mA) : ∃ od, h.get? dx = some od ∧ ∀ name, PySem.W.lookIn name od = some (mA name) := by
  obtain ⟨o, es, ep, ho, hd, hk, _, hm⟩ := n
  refine ⟨o, ho, fun name => ?_⟩
  have e := hm name
  unfold nsFind findBy at e
  rw [← Array.find?_toList] at e
  unfold PySem.W.lookIn
  rw [hd]
  dsimp only
  split
  · rename_i y q
    rw [q] at e
    exact congrArg some e
  · rename_i q
    rw [q] at e
    have a : es.toList.any (·.refKey) = false := by
      rw [List.any_eq_false]
      intro y hy
      obtain ⟨z, t, hkey⟩ := hk y (Array.mem_toList_iff.mp hy)
      simp [DictEntry.refKey, hkey]
    have a' : ¬ es.toList.any (·.refKey) = true := by rw [a]; exact Bool.false_ne_true
    rw [if_neg a']
    exact congrArg some e

theorem ObjM.look {h : Heap} {x dx C : Addr} {mA : Str → Option Value} (I : ObjM h x dx C mA) : ∃ od, PySem.W.InstAt h x (PySem.W.instObj C dx) C (some od) ∧ ∀ name, PySem.W.lookIn name od = some (mA name) :=
  let ⟨od, ho, hl⟩ := lookIn_ns I.ns
  ⟨od, ⟨I.obj, rfl, rfl, ho⟩, hl⟩

section
variable {prog : Program} {w : World} {A : Around} {E : Value → Shared → Prop} {s : Shared} {K : PySem.W.Frag} {x dx C f : Addr} {mA : Str → Option Value} {name : Str} {v : Value}

end

section
variable {P : Program} {w : World} {H H' : Hp} {h h' : Heap} {a C dx : Addr} {fs fs' : List (Str × V)}
end

structure Cls (K : PySem.W.Frag) (C : Addr) : Prop where
  pg : PySem.W.plainGet K C Str.empty = true
  hd : PySem.W.hasDictIn K C = true
  po : PySem.W.plainOver K C = true
  sa : PySem.W.findIn K (.ref C) "__setattr__" = some (some (.builtin "object.__setattr__"))
theorem Cls.get {K : PySem.W.Frag} {C : Addr} (c : Cls K C) (f : Str) : PySem.W.plainGet K C f = true := c.pg
section
variable {X : Cx} {pins : List (Addr × Obj)} {σ : St} {H : Hp} {s : Shared} {a C dx : Addr} {fs : List (Str × V)} {f : Str} {v : V} {A : Around} {E : Value → Shared → Prop}

/-- a new instance, tracked, without attributes -/
theorem Inv.made (I : Inv X pins σ H s) : Inv X pins σ (upd (upd H s.heap.objs.size (.own (s.heap.objs.size + 1))) (s.heap.objs.size + 1) (.ins C s.heap.objs.size []))
    { s with heap := (s.heap.push PySem.W.emptyDict).push (PySem.W.instObj C s.heap.objs.size) } := by
  have e1 : (s.heap.push PySem.W.emptyDict).get? s.heap.objs.size = some PySem.W.emptyDict := Heap.get?_push_size s.heap rfl
  have e2 : ((s.heap.push PySem.W.emptyDict).push (PySem.W.instObj C s.heap.objs.size)).get? (s.heap.objs.size + 1) = some (PySem.W.instObj C s.heap.objs.size) := by
    have := Heap.get?_push_size (s.heap.push PySem.W.emptyDict) (o := PySem.W.instObj C s.heap.objs.size) rfl
    rwa [Heap.size_push] at this
  have e3 : (s.heap.push PySem.W.emptyDict).Ns s.heap.objs.size (fun _ => none) := ⟨PySem.W.emptyDict, #[], _, e1, rfl, (fun e he => absurd he (by simp)), fun _ => rfl⟩
  have I1 := I.laid (a := s.heap.objs.size) (o := .own (s.heap.objs.size + 1)) (h' := s.heap.push PySem.W.emptyDict) (t' := s.toks) (fun b u q => Heap.get?_push_of_some _ q) (Nat.le_refl _) ⟨_, e1⟩
  refine I1.laid (a := s.heap.objs.size + 1) (o := .ins C s.heap.objs.size []) (t' := s.toks) (fun b u q => Heap.get?_push_of_some _ q) (Nat.le_of_eq (Heap.size_push _ _)) ?_
  have ne : s.heap.objs.size ≠ s.heap.objs.size + 1 := Nat.ne_of_lt (Nat.lt_succ_self _)
  refine ⟨by rw [upd_ne ne, upd_same], Nat.zero_le _, ne, e2, fun _ => none, (Heap.Ns1.of_empty e3).at fun o q => Heap.get?_push_of_some _ q, fun _ => True.intro, fun y hy => absurd rfl hy⟩

end

section
variable {X : Cx} {o e value : Expr} {f : Str} {pos pos' tpos : Pos} {ta tv : TE}
end

section
variable {X : Cx} {pins : List (Addr × Obj)} {σ : St} {H : Hp} {s : Shared} {A : Around} {E : Value → Shared → Prop} {Q : Value → Shared → Prop} {c : Value} {b : Bool}
end
end L2

namespace L2
open PySem PySem.Spec PyProof.Rows

structure Room (k : Nat) (A : Around) : Prop where
  hd : A.handled = none
  dp : A.depth + 3 * k + 5 < recursionLimit
  un : A.units + 16 * k + 200 < cLine
theorem Room.mono {j k : Nat} {A : Around} (r : Room k A) (h : j ≤ k) : Room j A := ⟨r.hd, by have := r.dp; omega, by have := r.un; omega⟩
theorem Room.deeper {k : Nat} {A : Around} (r : Room (k + 1) A) (env : Env) : Room k (A.deeper env) :=
  ⟨r.hd, by have := r.dp; show A.depth + 1 + 3 * k + 5 < _; omega, by have := r.un; show A.units + 3 + 16 * k + 200 < _; omega⟩
theorem Room.in1 {k : Nat} {A : Around} (r : Room (k + 1) A) : Room k A.in1 :=
  ⟨r.hd, by have := r.dp; show A.depth + 3 * k + 5 < _; omega, by have := r.un; show A.units + 1 + 16 * k + 200 < _; omega⟩
theorem Room.depth {k : Nat} {A : Around} (r : Room k A) : A.depth < recursionLimit := by have := r.dp; omega
theorem Room.units {k : Nat} {A : Around} (r : Room k A) : A.units + 64 < cLine := by have := r.un; omega
def tNil : TA := fun _ H Q => Q [] H
def tCons (ta : TE) (tr : TA) : TA := fun σ H Q => ta σ H fun x H1 => tr σ H1 fun xs H2 => Q (x :: xs) H2
section
variable {X : Cx} {e : Expr} {es : List Expr} {te : TE} {t : TA} {pos : Pos}
theorem pa_nil : PA X [] tNil := fun _ _ _ _ H Q I h => Calls.spliced_nil ⟨[], H, I, .nil, h⟩
theorem pa_cons (ha : PE X e te) (hr : PA X es t) (hs : starEach (e :: es) X.env = (false, eval e X.env) :: starEach es X.env := by rfl) : PA X (e :: es) (tCons te t) := by
  intro pos pins s σ H Q I h
  rw [hs]
  show wpAny _ _ (spliced ((false, eval e X.env) :: backTo pos (starEach es X.env))) _ _ s
  refine Calls.spliced_cons (thn (ha pins s σ H _ I h) fun u s1 ⟨x, H1, I1, r1, q1⟩ => ?_)
  exact thn (hr pos pins s1 σ H1 _ I1 q1) fun us s2 ⟨xs, H2, I2, r2, q2⟩ => ⟨x :: xs, H2, I2, .cons r1 r2, q2⟩

/-- a tuple, a list of written items -/
def tTup (t : TA) : TE := fun σ H Q => t σ H fun xs H1 => xs.length ≤ sizeLine ∧ ∀ p, H1 p = none → Q (.ref p) (upd H1 p (.tup xs))
def tLst (t : TA) : TE := fun σ H Q => t σ H fun xs H1 => xs.length ≤ sizeLine ∧ ∀ p, H1 p = none → Q (.ref p) (upd H1 p (.lst xs))
theorem pe_tup {x1} (h : PA X es t) : PE X (.Tuple es x1 pos) (tTup t) := by
  intro pins s σ H Q I hq
  refine wpAny_Tuple_spliced (thn (h pos pins s σ H _ I hq) fun us s1 ⟨xs, H1, I1, r, z, q⟩ => ⟨by rw [← r.length]; exact z, ?_⟩)
  have hf : H1 s1.heap.objs.size = none := I1.hok.fresh (Nat.le_refl _)
  refine ⟨.ref s1.heap.objs.size, upd H1 s1.heap.objs.size (.tup xs), I1.laid (t' := s1.toks) (fun b u e => Heap.get?_push_of_some _ e) (Nat.le_refl _) ?_, rfl, q _ hf⟩
  exact ⟨z, us, r, ⟨_, Heap.get?_push_size _ rfl, rfl, _, rfl⟩⟩
theorem pe_lst (h : PA X es t) : PE X (.List es pos) (tLst t) := by
  intro pins s σ H Q I hq
  refine wpAny_List_spliced (thn (h pos pins s σ H _ I hq) fun us s1 ⟨xs, H1, I1, r, z, q⟩ => ⟨by rw [← r.length]; exact z, ?_⟩)
  have hf : H1 s1.heap.objs.size = none := I1.hok.fresh (Nat.le_refl _)
  refine ⟨.ref s1.heap.objs.size, upd H1 s1.heap.objs.size (.lst xs), I1.laid (t' := s1.toks) (fun b u e => Heap.get?_push_of_some _ e) (Nat.le_refl _) ?_, rfl, q _ hf⟩
  exact ⟨z, us, 0, r, Heap.get?_push_size _ rfl⟩
end

/-- a def's promise: the bound arguments in the parameters' order, the heap, the wanted end, the wanted exception -/
abbrev Sp := List V → Hp → VK → XK → Prop
/-- how an exception lies behind a call (file 08 gives it): the callers' frames, abstract heap and state ahead of the call, the wish, the exception, the state -/
abbrev CXT := List Env → Hp → Shared → XK → Value → Shared → Prop

/-- the state at a call -/
structure Env0 (P : Program) (w : World) (K : PySem.W.Frag) (mg : Str → Option Value) (base : Heap) (A : Around) (outer : List Env) (s : Shared) (H : Hp) : Prop where
  frames : A.frames = some outer
  mod : Mod K mg base
  bs : ∀ b o, base.get? b = some o → s.heap.get? b = some o ∧ H b = none
  bsz : base.objs.size ≤ s.heap.objs.size
  funs : s.heap.FunFrames base outer
  frf : ∀ b ∈ frs outer, H b = none
  hok : HOk P w H s.heap
  bare : AllBare s.gens
/-- a call's end -/
def CE (outer : List Env) (P : Program) (w : World) (H : Hp) (s : Shared) (Q : VK) (u : Value) (s' : Shared) : Prop :=
  ∃ v H', s'.os = s.os ∧ AllBare s'.gens ∧ Un (frs outer) [] H H' s.heap s'.heap ∧ HOk P w H' s'.heap ∧ RelV v u ∧ Q v H'
def CR (CX : CXT) (outer : List Env) (P : Program) (w : World) (H : Hp) (s : Shared) (Q : VK) (E : XK) (r : Result) (s' : Shared) : Prop :=
  match r with
  | .ok (.ret u) => CE outer P w H s Q u s'
  | .ok _ => False
  | .error e => CX outer H s E e s'
structure FnOk (P : Program) (w : World) (K : PySem.W.Frag) (mg : Str → Option Value) (base : Heap) (CX : CXT) (k : Nat) (f : Addr) (fd : FuncData) (ps : List Str) (sp : Sp) : Prop where
  len : ∀ vs H Q E, sp vs H Q E → vs.length = ps.length
  run : ∀ (A : Around) (outer : List Env) (s : Shared) (H : Hp) (args : Args) (us : List Value) (vs : List V) (Q : VK) (E : XK), Room k A → Env0 P w K mg base A outer s H → BindsTo s fd args (ps.zip us) → Vals vs us → sp vs H Q E →
    codeAny (model P w) A (.call (.ref f) args) (CR CX outer P w H s Q E) s
theorem FnOk.mono {P : Program} {w : World} {K : PySem.W.Frag} {mg : Str → Option Value} {base : Heap} {CX : CXT} {j k : Nat} {f : Addr} {fd : FuncData} {ps : List Str} {sp : Sp} (F : FnOk P w K mg base CX j f fd ps sp) (h : j ≤ k) :
    FnOk P w K mg base CX k f fd ps sp := ⟨F.len, fun A outer s H args us vs Q E hr => F.run A outer s H args us vs Q E (hr.mono h)⟩
/-- a weaker promise -/
theorem FnOk.imp {P : Program} {w : World} {K : PySem.W.Frag} {mg : Str → Option Value} {base : Heap} {CX : CXT} {k : Nat} {f : Addr} {fd : FuncData} {ps : List Str} {sp sp' : Sp} (F : FnOk P w K mg base CX k f fd ps sp)
    (h : ∀ vs H Q E, sp' vs H Q E → sp vs H Q E) : FnOk P w K mg base CX k f fd ps sp' :=
  ⟨fun vs H Q E q => F.len vs H Q E (h _ _ _ _ q), fun A outer s H args us vs Q E hr he hb hv hs => F.run A outer s H args us vs Q E hr he hb hv (h _ _ _ _ hs)⟩

theorem Env0.in1 {P : Program} {w : World} {K : PySem.W.Frag} {mg : Str → Option Value} {base : Heap} {A : Around} {outer : List Env} {s : Shared} {H : Hp} (e : Env0 P w K mg base A outer s H) :
    Env0 P w K mg base A.in1 outer s H := ⟨e.frames, e.mod, e.bs, e.bsz, e.funs, e.frf, e.hok, e.bare⟩

section
variable {X : Cx} {pins : List (Addr × Obj)} {σ : St} {H : Hp} {s s' : Shared}
/-- from a body: what a callee wants -/
theorem Inv.env0 (I : Inv X pins σ H s) : Env0 X.prog X.w X.K X.mg X.base X.A X.stack s H :=
  ⟨I.ok.frames, I.ok.mod, I.bs, Nat.le_trans I.ok.bsz I.sz, I.stack, I.stkFree, I.hok, I.bare⟩
/-- behind a call -/
theorem Inv.after {Q : VK} {u : Value} (I : Inv X pins σ H s) (h : CE X.stack X.prog X.w H s Q u s') : EP X pins σ Q u s' := by
  obtain ⟨v, H', os, bare, un, hok, r, q⟩ := h
  obtain ⟨hh, g, d, t, os'⟩ := s'
  obtain rfl : os' = s.os := os
  exact ⟨v, H', I.call (h' := hh) (g' := g) (d' := d) (t' := t) (ch := []) un hok bare (fun b z => absurd z (by simp)), r, q⟩
end

/-- f(..): the written arguments, then the defaults dvs; E: what is wanted of an exception -/
def tCall (sp : Sp) (dvs : List V) (E : XK) (t : TA) : TE := fun σ H Q => t σ H fun vs H1 => sp (vs ++ dvs) H1 Q E
/-- how the parameters are bound: us the positional arguments, kw the keywords' values by name, ds the defaults that fill up -/
def Binds (K : PySem.W.Frag) (fd : FuncData) (ps : List Str) (ds : List Value) : Prop :=
  ∀ (s : Shared) (us : List Value), K.In s.heap → (us ++ ds).length = ps.length → BindsTo s fd ⟨us, []⟩ (ps.zip (us ++ ds))
/-- every parameter is given -/
theorem Binds.all {K : PySem.W.Frag} {fd : FuncData} {ps : List Str} (h : ∀ us : List Value, us.length = ps.length → bindArgs fd ⟨us, []⟩ = pure (ps.zip us)) : Binds K fd ps [] := fun s us _ hl => by
  rw [List.append_nil] at hl ⊢
  exact .of_eq (h us hl)

/-- an exception of a callee reaches what this body wants of exceptions -/
def Passes (CX : CXT) (X : Cx) (E : XK) : Prop := ∀ (pins : List (Addr × Obj)) (σ : St) (H : Hp) (s : Shared) (e : Value) (s' : Shared), Inv X pins σ H s → CX X.stack H s E e s' → X.xe e s'

section
variable {X : Cx} {CX : CXT} {k : Nat} {f C : Addr} {fd : FuncData} {ps : List Str} {sp : Sp} {dvs : List V} {ds : List Value} {E : XK} {x m : Str} {p pos apos : Pos} {e o : Expr} {es : List Expr} {ta : TE} {t : TA}

/-- the callee runs -/
theorem run_fn {pins : List (Addr × Obj)} {σ : St} {H : Hp} {s : Shared} {Q : VK} {us : List Value} {vs : List V} (F : FnOk X.prog X.w X.K X.mg X.base CX k f fd ps sp) (hr : Room k X.A) (hb : Binds X.K fd ps ds) (hd : Vals dvs ds) (hx : Passes CX X E)
    (I : Inv X pins σ H s) (r : Vals vs us) (h : sp (vs ++ dvs) H Q E) : wpAny (model X.prog X.w) X.A (call (.ref f) us) (EP X pins σ Q) X.xe s := by
  have r2 : Vals (vs ++ dvs) (us ++ ds) := r.append hd
  have hl : (us ++ ds).length = ps.length := by rw [← r2.length]; exact F.len _ _ _ _ h
  refine wpAny_call (codeAny_mono (F.run X.A X.stack s H ⟨us, []⟩ (us ++ ds) (vs ++ dvs) Q E hr I.env0 (hb s us I.kIn hl) r2 h) fun r s' hq => ?_)
  cases r with
  | error e => exact hx pins σ H s e s' I hq
  | ok fl =>
    cases fl with
    | ret u => exact I.after hq
    | next => exact False.elim hq
    | brk => exact False.elim hq
    | cont => exact False.elim hq

theorem pe_call (F : FnOk X.prog X.w X.K X.mg X.base CX k f fd ps sp) (hr : Room k X.A) (hg : Gl X x) (hm : X.mg x = some (.ref f)) (hk : PySem.W.keepIn X.K (.ref f) = true) (hb : Binds X.K fd ps ds) (hd : Vals dvs ds) (hx : Passes CX X E)
    (ha : PA X (e :: es) t) (hdb : (x == ("__debug__" : Str)) = false := by decide) (he : starEach (e :: es) X.env = (false, eval e X.env) :: starEach es X.env := by rfl) (hpl : (backTo pos (starEach es X.env)).any (·.1) = false := by rfl) :
    PE X (.Call (.Name x p) (e :: es) [] pos) (tCall sp dvs E t) := by
  intro pins s σ H Q I h
  refine wpAny_Call_Name_kw (ld_glob I hg hm ?_ hdb)
  refine PySem.W.callWith_K (h₀ := X.base) I.ok.mod.kin hk (thn (ha pos pins s σ H _ I h) fun us s1 ⟨vs, H1, I1, r, q⟩ => ⟨I1.kIn, ?_⟩) he hpl
  exact run_fn F hr hb hd hx I1 r q
end

section
variable {X : Cx} {CX : CXT} {k : Nat} {f C : Addr} {fd : FuncData} {ps ks : List Str} {sp : Sp} {E : XK} {x m : Str} {p pos apos kpos : Pos} {e o : Expr} {es : List Expr} {kws : List Keyword} {te ta : TE} {t tk : TA} {nm : Option Str}
variable {g : List Value → List Value → List Value} {gV : List V → List V → List V}
end

/-- names: the parameters first -/
structure FnScope (N P : List Str) (sc : Scope) : Prop where
  kind : sc.kind = .function
  co : sc.isCoroutine = false
  gen : sc.isGenerator = false
  nd : N.Nodup
  pre : N.take P.length = P
  par : ∀ x ∈ P, sc.names.lookup x = some .local ∨ sc.names.lookup x = some .cell
  nofree : ∀ y ∈ sc.names, y.2 ≠ .free

theorem bindL_out {kindOf : Str → Option NameKind} {x : Str} : ∀ {binds : List (Str × Value)} {m : Str → Option Value}, (∀ v, (x, v) ∉ binds) → bindL kindOf binds m x = m x
  | [], _, _ => rfl
  | (n, v) :: r, m, h => by
    unfold bindL
    rw [bindL_out fun w hw => h w (List.mem_cons_of_mem _ hw)]
    split
    · have : x ≠ n := by rintro rfl; exact h v List.mem_cons_self
      simp [this]
    · rfl
theorem bindC_out {kindOf : Str → Option NameKind} {x : Str} : ∀ {binds : List (Str × Value)} {m : Str → Option Value}, (∀ v, (x, v) ∉ binds) → bindC kindOf binds m x = m x
  | [], _, _ => rfl
  | (n, v) :: r, m, h => by
    unfold bindC
    rw [bindC_out fun w hw => h w (List.mem_cons_of_mem _ hw)]
    split
    · rfl
    · have : x ≠ n := by rintro rfl; exact h v List.mem_cons_self
      simp [this]
theorem bindL_get {kindOf : Str → Option NameKind} {x : Str} {v : Value} : ∀ {P : List Str} {vs : List Value} {i : Nat} {m : Str → Option Value}, P.Nodup → P[i]? = some x → vs[i]? = some v → kindOf x = some .local →
    bindL kindOf (P.zip vs) m x = some v
  | [], _, _, _, _, h, _, _ => by simp at h
  | _ :: _, [], _, _, _, _, h, _ => by simp at h
  | p :: P, w :: vs, 0, m, nd, h1, h2, hk => by
    simp at h1 h2; subst h1; subst h2
    show bindL kindOf ((p, w) :: P.zip vs) m p = _
    unfold bindL
    rw [bindL_out fun v hv => (List.nodup_cons.mp nd).1 (List.of_mem_zip hv).1, if_pos hk]
    simp
  | p :: P, w :: vs, i + 1, m, nd, h1, h2, hk => by
    show bindL kindOf ((p, w) :: P.zip vs) m x = _
    unfold bindL
    exact bindL_get (i := i) (List.nodup_cons.mp nd).2 (by simpa using h1) (by simpa using h2) hk
theorem bindC_get {kindOf : Str → Option NameKind} {x : Str} {v : Value} : ∀ {P : List Str} {vs : List Value} {i : Nat} {m : Str → Option Value}, P.Nodup → P[i]? = some x → vs[i]? = some v → kindOf x ≠ some .local →
    bindC kindOf (P.zip vs) m x = some v
  | [], _, _, _, _, h, _, _ => by simp at h
  | _ :: _, [], _, _, _, _, h, _ => by simp at h
  | p :: P, w :: vs, 0, m, nd, h1, h2, hk => by
    simp at h1 h2; subst h1; subst h2
    show bindC kindOf ((p, w) :: P.zip vs) m p = _
    unfold bindC
    rw [bindC_out fun v hv => (List.nodup_cons.mp nd).1 (List.of_mem_zip hv).1, if_neg hk]
    simp
  | p :: P, w :: vs, i + 1, m, nd, h1, h2, hk => by
    show bindC kindOf ((p, w) :: P.zip vs) m x = _
    unfold bindC
    exact bindC_get (i := i) (List.nodup_cons.mp nd).2 (by simpa using h1) (by simpa using h2) hk

/-- the names' values at the entry -/
def start (N : List Str) (vs : List V) : St := vs.map some ++ List.replicate (N.length - vs.length) none

/-- the context of a def's body, at its entry; an exception leaves the frame, then lies as CX says -/
def cxOf (CX : CXT) (P : Program) (w : World) (K : PySem.W.Frag) (mg : Str → Option Value) (base : Heap) (N : List Str) (qual : Str) (scope : Scope) (f : Addr) (cd : Value) (A : Around) (outer : List Env) (s : Shared) (H : Hp) (E : XK) : Cx where
  prog := P
  w := w
  K := K
  mg := mg
  base := base
  A := A.deeper (envOfC qual scope s.heap.objs.size f cd)
  N := N
  s₀ := s
  H₀ := H
  env := envOfC qual scope s.heap.objs.size f cd
  outer := outer
  stack := envOfC qual scope s.heap.objs.size f cd :: outer
  ex := []
  calm := true
  fn := fun _ => true
  pn := []
  xe := fun e s' => wpAny (model P w) (A.deeper (envOfC qual scope s.heap.objs.size f cd)) (leaving (envOfC qual scope s.heap.objs.size f cd) e) (fun _ s'' => CX outer H s E e s'') (fun e' s'' => CX outer H s E e' s'') s'

theorem cell_has {sc : Scope} {n : Nat} {x : Str} (h : sc.names.lookup x = some .cell) : ∃ c, (cellsFrom n sc.names []).lookup x = some c := by
  have q := PySem.W.cellsFrom_some sc.names n [] (.inl h)
  exact Option.isSome_iff_exists.mp q

theorem inv_start {CX : CXT} {P : Program} {w : World} {K : PySem.W.Frag} {mg : Str → Option Value} {base : Heap} {N ps : List Str} {qual : Str} {scope : Scope} {f : Addr} {cd : Value} {A : Around} {outer : List Env} {s s1 : Shared} {H : Hp} {E : XK} {us : List Value} {vs : List V}
    (S : FnScope N ps scope) (hd : A.handled = none) (e0 : Env0 P w K mg base A outer s H) (hl : vs.length = ps.length) (r : Vals vs us)
    (x : InCallC s s.heap.objs.size (bindL (envOfC qual scope s.heap.objs.size f cd).kindOf (ps.zip us) fun _ => none) (cellsFrom (s.heap.objs.size + 1) scope.names []) (bindC (envOfC qual scope s.heap.objs.size f cd).kindOf (ps.zip us) fun _ => none) s1) :
    Inv (cxOf CX P w K mg base N qual scope f cd A outer s H E) [] (start N vs) H s1 := by
  have hpl : ps.length ≤ N.length := by have := congrArg List.length S.pre; rw [List.length_take] at this; omega
  obtain ⟨h1, tk, rfl, hk⟩ := x.done
  have noA : ∀ b : Addr, b ∉ (cxOf CX P w K mg base N qual scope f cd A outer s H E).ex := fun b z => absurd (show b ∈ ([] : List Addr) from z) (by simp)
  refine ⟨⟨e0.mod, S.kind, rfl, rfl, Nat.le_refl _, fun y z c h1 h2 => ?_, fun y hy => ?_, fun y c _ h => ?_, fun _ => hd, Around.frames_deeper e0.frames, .inr ⟨rfl, rfl⟩, fun b z => absurd z (noA b), e0.bs, e0.bsz, fun b _ _ => noA b, fun b z => absurd z (noA b), e0.funs, e0.frf⟩,
    rfl, e0.bare, Un.kept hk, ⟨_, x.toInCall.ns, fun i y v h1 h2 h3 => ?_⟩, fun y c h => ⟨_, x.cell y c h⟩, e0.hok.fresh (Nat.le_refl _), fun y c h => ?_, fun p hp => absurd (show p ∈ ([] : List (Addr × Obj)) from hp) (by simp), e0.hok.kept hk, ?_⟩
  · exact name_of_addr x.apart (PySem.mem_of_lookup h1) (PySem.mem_of_lookup h2)
  · have hy : scope.names.lookup y = some .cell ∨ scope.names.lookup y = some .free := hy
    rcases hy with hy | hy
    · exact cell_has hy
    · exact absurd rfl (S.nofree _ (PySem.mem_of_lookup hy))
  · exact Nat.le_of_lt (x.above y c (PySem.mem_of_lookup h))
  · have hi : i < vs.length := by
      unfold start at h2
      by_cases hi : i < vs.length
      · exact hi
      · rw [List.getElem?_append_right (by simpa using hi)] at h2
        rw [List.getElem?_replicate] at h2
        split at h2 <;> cases h2
    have ha : vs[i]? = some v := by
      unfold start at h2
      rw [List.getElem?_append_left (by simpa using hi), List.getElem?_map] at h2
      cases e : vs[i]? with
      | none => rw [e] at h2; cases h2
      | some a => rw [e] at h2; cases h2; rfl
    obtain ⟨u, hu, rv⟩ := r.get ha
    have hp : ps[i]? = some y := by
      rw [← S.pre, List.getElem?_take_of_lt (by omega)]; exact h1
    have ndP : ps.Nodup := by rw [← S.pre]; exact S.nd.sublist (List.take_sublist _ _)
    refine ⟨u, rv, ?_⟩
    rcases S.par y (List.mem_of_getElem? hp) with k | k
    · exact .inl ⟨k, bindL_get ndP hp hu k⟩
    · obtain ⟨c, e⟩ := cell_has (n := s.heap.objs.size + 1) k
      refine .inr ⟨.inl k, c, e, ?_⟩
      have q := x.cell y c e
      rw [bindC_get ndP hp hu (by show scope.names.lookup y ≠ _; rw [k]; decide)] at q
      exact q
  · exact e0.hok.fresh (Nat.le_of_lt (x.above y c (PySem.mem_of_lookup h)))
  · unfold start
    show _ = N.length
    rw [List.length_append, List.length_map, List.length_replicate]
    omega

/-- THE RULE: a def (or a method) of the text, by its body. The body's reading t is chosen for each entry; it is run at the parameters' values -/
theorem fn_of {CX : CXT} {P : Program} {w : World} {K : PySem.W.Frag} {mg : Str → Option Value} {base : Heap} {k : Nat} {f : Addr} {name qual : Str} {params : Arguments} {body : List Stmt} {scope : Scope} {dV kV doc pm cdv ct oc : Value} {an od : Option Addr}
    {osl : Array (Option Value)} {N ps : List Str} {sp : Sp} (lk : K.lookup f = some ⟨oc, od, .func (PySem.W.fnOf name qual params body scope dV kV doc pm an cdv ct), osl⟩) (hcd : PySem.W.codeIn K cdv qual = true) (S : FnScope N ps scope)
    (len : ∀ vs H Q E, sp vs H Q E → vs.length = ps.length)
    (hbody : ∀ (A : Around) (outer : List Env) (s : Shared) (H : Hp) (vs : List V) (Q : VK) (E : XK), Room k (A.deeper (envOfC qual scope s.heap.objs.size f cdv)) → sp vs H Q E →
      ∃ t, PSs (cxOf CX P w K mg base N qual scope f cdv A outer s H E) body t ∧ t { nx := fun _ H' => Q .non H', rt := Q } (start N vs) H) :
    FnOk P w K mg base CX (k + 1) f (PySem.W.fnOf name qual params body scope dV kV doc pm an cdv ct) ps sp := by
  refine ⟨len, fun A outer s H args us vs Q E hr e0 hb r hsp => ?_⟩
  have hl := len _ _ _ _ hsp
  have KX : K.In s.heap := e0.mod.kin.keeps fun b o e => (e0.bs b o e).1
  have lim : s.heap.NoLimit := e0.mod.nolimit.keeps fun b o e => (e0.bs b o e).1
  have hkind : ∀ y ∈ ps.zip us, scope.names.lookup y.1 = some .local ∨ (scope.names.lookup y.1 = some .cell ∧ ((cellsFrom (s.heap.objs.size + 1) scope.names []).lookup y.1).isSome = true) := fun ⟨n, v⟩ hy => by
    rcases S.par n (List.of_mem_zip hy).1 with q | q
    · exact .inl q
    · exact .inr ⟨q, PySem.W.cellsFrom_some _ _ _ (.inl q)⟩
  refine codeAny_call_function hr.depth (KX _ _ lk) rfl S.co S.gen rfl (PySem.W.codeRec_of KX hcd) (hb _ _ _ _ ?_)
  refine wpAny_newFunctionEnv_cells S.kind hkind fun env he s1 x => ?_
  subst he
  refine ⟨lim.keeps x.toInCall.keep, codeAny_func ?_⟩
  obtain ⟨t, ht, hq⟩ := hbody A outer s H vs Q E (hr.deeper _) hsp
  have I : Inv (cxOf CX P w K mg base N qual scope f cdv A outer s H E) [] (start N vs) H s1 := inv_start S hr.hd e0 hl r x
  refine wpAny_mono (ht [] s1 (start N vs) H _ I hq) (fun fl s' hs => ?_) fun e s' hs => hs
  have fin : ∀ {σ' : St} {H' : Hp} {v : V} {u : Value}, Inv (cxOf CX P w K mg base N qual scope f cdv A outer s H E) [] σ' H' s' → RelV v u → Q v H' → CE outer P w H s Q u s' :=
    fun {σ' H' v u} J rv q => ⟨v, H', J.os, J.bare, J.base, J.hok, rv, q⟩
  cases fl with
  | ret u =>
    obtain ⟨v, σ', H', J, rv, q⟩ := hs
    exact fin J rv q
  | next =>
    obtain ⟨σ', H', J, q⟩ := hs
    exact fin (v := V.non) (u := Value.none) J rfl q
  | brk =>
    obtain ⟨_, _, _, q⟩ := hs
    exact False.elim q
  | cont =>
    obtain ⟨_, _, _, q⟩ := hs
    exact False.elim q
end L2

namespace L2
open PySem PySem.Spec PyProof.Rows
section
variable {X : Cx} {x : Str} {p pos : Pos} {e : Expr} {es : List Expr} {t : TA} {id T : String} {r : List V → Hp → VK → Prop}

def tCB (r : List V → Hp → VK → Prop) (t : TA) : TE := fun σ H Q => t σ H fun vs H1 => r vs H1 Q
/-- f(e, ..), f a built-in function -/
theorem pe_callB (hc : CallR X (.builtin id) r) (hg : Gl X x) (hm : X.mg x = none) (hv : bootBuiltins x = some (.builtin id)) (ha : PA X (e :: es) t) (hn : x ≠ "__name__" := by decide) (hdb : (x == ("__debug__" : Str)) = false := by decide)
    (he : starEach (e :: es) X.env = (false, eval e X.env) :: starEach es X.env := by rfl) (hpl : (backTo pos (starEach es X.env)).any (·.1) = false := by rfl) : PE X (.Call (.Name x p) (e :: es) [] pos) (tCB r t) := by
  intro pins s σ H Q I h
  refine wpAny_Call_Name_kw (ld_blt I hg hm hv ?_ hn hdb)
  exact PyProof.Rows.callWith_builtin1 (thn (ha pos pins s σ H _ I h) fun us s1 ⟨vs, H1, I1, r1, q1⟩ => hc pins s1 σ H1 vs us Q I1 r1 q1) he hpl
/-- T(e, ..), T a built-in type -/
theorem pe_callTy (hc : CallR X (.type T) r) (hg : Gl X x) (hm : X.mg x = none) (hv : bootBuiltins x = some (.type T)) (ha : PA X (e :: es) t) (hn : x ≠ "__name__" := by decide) (hdb : (x == ("__debug__" : Str)) = false := by decide)
    (he : starEach (e :: es) X.env = (false, eval e X.env) :: starEach es X.env := by rfl) (hpl : (backTo pos (starEach es X.env)).any (·.1) = false := by rfl) : PE X (.Call (.Name x p) (e :: es) [] pos) (tCB r t) := by
  intro pins s σ H Q I h
  refine wpAny_Call_Name_kw (ld_blt I hg hm hv ?_ hn hdb)
  exact PyProof.Rows.callWith_type1 (thn (ha pos pins s σ H _ I h) fun us s1 ⟨vs, H1, I1, r1, q1⟩ => hc pins s1 σ H1 vs us Q I1 r1 q1) he hpl
end
end L2

namespace HT
open PySem PyProof.Rows

section
open PySem.SeqAt
open PySem.AutoSeq1 (wpAny_loadPart')
open PySem.MeetsSeq PySem.MeetsSeq2 PySem.MeetsSeq3

end

section
variable {prog : Program} {w : World} {A : Around} {E : Value → Shared → Prop} {s : Shared}

/-- t + u, t not empty -/
theorem cat_tup {t b : Addr} {vs ws : List Value} {Q : Value → Shared → Prop} (ht : IsTup s.heap t vs.toArray) (hb : IsTup s.heap b ws.toArray) (hv : vs ≠ [])
    (h1 : ws = [] → Q (.ref t) s) (h2 : ws ≠ [] → Q (.ref s.heap.objs.size) { s with heap := s.heap.push { cls := .type "tuple", data := .seq (vs ++ ws).toArray } })
    (hsz : vs.length + ws.length ≤ sizeLine) : wpAny (model prog w) A (binaryOp .Add (.ref t) (.ref b)) Q E s := by
  obtain ⟨⟨cls, dd, data, sl⟩, ho, hc, n, hd⟩ := id ht
  obtain ⟨⟨cls2, dd2, data2, sl2⟩, ho2, hc2, n2, hd2⟩ := id hb
  simp only at hc hd hc2 hd2
  subst hc hd hc2 hd2
  have e : vs.toArray ++ ws.toArray = (vs ++ ws).toArray := by simp
  by_cases hw : ws = []
  · exact concat_meets ⟨_, ho, rfl⟩ ⟨_, ho2, rfl⟩ noFill_tuple_add seq_tuple_add PySem.F.slot_tuple_add PySem.F.entry_tuple_add (PySem.F.args_tuple_add_2 _ _)
      (tuple_addW1 t b vs.toArray ws.toArray n n2 dd dd2 sl sl2 (by simpa using hv) (by simp [hw])) ⟨ho, ho2, h1 hw⟩
  · refine concat_meets ⟨_, ho, rfl⟩ ⟨_, ho2, rfl⟩ noFill_tuple_add seq_tuple_add PySem.F.slot_tuple_add PySem.F.entry_tuple_add (PySem.F.args_tuple_add_2 _ _)
      (tuple_addW2 t b vs.toArray ws.toArray n n2 dd dd2 sl sl2 (by simpa using hv) (by simpa using hw) (by rw [List.size_toArray, List.size_toArray]; exact hsz)) ⟨ho, ho2, ?_⟩
    rw [e]
    exact h2 hw

/-- a slice's bound as a place among n (d where it is left out) -/
def sIx (n d : Nat) : Option Int → Nat
  | none => d
  | some v => if v < 0 then (v + (n : Int)).toNat else min v.toNat n
theorem sIx_none (n d : Nat) : sIx n d none = d := rfl
theorem sIx_nat (n d k : Nat) : sIx n d (some (k : Int)) = min k n := by
  show (if (k : Int) < 0 then ((k : Int) + (n : Int)).toNat else min (k : Int).toNat n) = min k n
  rw [if_neg (by omega), Int.toNat_natCast]
theorem sIx_le (n d : Nat) (hd : d ≤ n) (o : Option Int) : sIx n d o ≤ n := by
  cases o with
  | none => exact hd
  | some v =>
    show (if v < 0 then (v + (n : Int)).toNat else min v.toNat n) ≤ n
    by_cases hv : v < 0
    · rw [if_pos hv]; omega
    · rw [if_neg hv]; exact Nat.min_le_right _ _
theorem clip_eq (v : Int) (n d : Nat) : (if v < 0 then max (v + (n : Int)) 0 else min v (n : Int)) = ((sIx n d (some v) : Nat) : Int) := by
  show (if v < 0 then max (v + (n : Int)) 0 else min v (n : Int)) = (((if v < 0 then (v + (n : Int)).toNat else min v.toNat n) : Nat) : Int)
  by_cases hv : v < 0
  · simp only [if_pos hv]; omega
  · simp only [if_neg hv]; omega
theorem adjust_gen (lo hi : Option Int) (n : Nat) : Builtin.Slice.sliceAdjust lo hi 1 (n : Int) = (((sIx n 0 lo : Nat) : Int), ((sIx n n hi : Nat) : Int)) := by
  have h1 : ¬ ((1 : Int) < 0) := by omega
  unfold Builtin.Slice.sliceAdjust
  simp only [h1, if_false]
  refine Prod.ext ?_ ?_
  · cases lo with
    | none => rfl
    | some v => exact clip_eq v n 0
  · cases hi with
    | none => rfl
    | some v => exact clip_eq v n n
theorem places_gen (i j : Nat) : Builtin.Slice.slicePlaces (i : Int) (j : Int) 1 = j - i := by
  unfold Builtin.Slice.slicePlaces
  have h1 : (1 : Int) > 0 := by omega
  simp only [h1, if_true, Int.ediv_one]
  split <;> omega
theorem slicePart_ {v : Value} {o : Option Int} {Q : Option Int → Shared → Prop} (p : IsPart v o) (h : Q o s) : wpAny (model prog w) A (Builtin.Slice.slicePartIndex v) Q E s := by
  cases p with
  | none => exact slicePart_none h
  | int i t => exact slicePart_int h
theorem sliceApplied_gen {sl : Addr} {vl vu : Value} {lo hi : Option Int} {n : Nat} {Q : Int × Int × Nat → Shared → Prop} (hs : s.heap.IsSliceOf sl vl vu .none) (pl : IsPart vl lo) (pu : IsPart vu hi)
    (h : Q (((sIx n 0 lo : Nat) : Int), 1, sIx n n hi - sIx n 0 lo) s) : wpAny (model prog w) A (Builtin.Slice.sliceApplied (.ref sl) (pure (n : Int))) Q E s := by
  obtain ⟨os, hos, hcs, hds⟩ := id hs
  unfold Builtin.Slice.sliceApplied Builtin.Slice.sliceFields
  refine wpAny_bind (wpAny_bind (wpAny_field hos hds (x := vl) rfl (wpAny_bind (wpAny_field hos hds (x := vu) rfl (wpAny_bind (wpAny_field hos hds (x := .none) rfl (wpAny_pure ?_)))))))
  refine wpAny_bind (slicePart_none ?_)
  show wpAny _ _ (if ((1 : Int) == 0) = true then _ else _) _ _ s
  rw [if_neg (by decide)]
  refine wpAny_bind (slicePart_ pl (wpAny_bind (slicePart_ pu (wpAny_bind (wpAny_pure ?_)))))
  show wpAny _ _ (match Builtin.Slice.sliceAdjust lo hi 1 (n : Int) with | (lo, hi) => pure (lo, (1 : Int), Builtin.Slice.slicePlaces lo hi 1)) _ _ s
  rw [adjust_gen lo hi n]
  show wpAny _ _ (pure (((sIx n 0 lo : Nat) : Int), (1 : Int), Builtin.Slice.slicePlaces ((sIx n 0 lo : Nat) : Int) ((sIx n n hi : Nat) : Int) 1)) _ _ s
  rw [places_gen]
  exact wpAny_pure h
theorem pick_gen (xs : Array Value) (i k : Nat) : ((List.range k).filterMap fun (m : Nat) => xs[((i : Int) + (m : Int) * 1).toNat]?).toArray = ((xs.toList.drop i).take k).toArray := by
  have e : (fun (m : Nat) => xs[((i : Int) + (m : Int) * 1).toNat]?) = fun m => xs[i + m]? := by
    funext m
    have : ((i : Int) + (m : Int) * 1).toNat = i + m := by omega
    rw [this]
  rw [e]
  have := pick_run xs i k
  rw [List.filterMap_map] at this
  have e2 : ((fun x => xs[x]?) ∘ fun x => i + x) = fun m => xs[i + m]? := rfl
  rw [e2] at this
  rw [this]

theorem getItem_tuple_cut {t sl : Addr} {items : Array Value} {vl vu : Value} {lo hi : Option Int} {Q : Value → Shared → Prop} (ht : IsTup s.heap t items) (hs : s.heap.IsSliceOf sl vl vu .none) (pl : IsPart vl lo) (pu : IsPart vu hi)
    (hw : ¬ (sIx items.size 0 lo = 0 ∧ sIx items.size items.size hi = items.size))
    (h : Q (.ref s.heap.objs.size) { s with heap := s.heap.push { cls := .type "tuple", data := .seq ((items.toList.drop (sIx items.size 0 lo)).take (sIx items.size items.size hi - sIx items.size 0 lo)).toArray } })
    (hsz : items.size ≤ sizeLine) : wpAny (model prog w) A (getItem (.ref t) (.ref sl)) Q E s := by
  have htake : sizeOk (.seq ((items.toList.drop (sIx items.size 0 lo)).take (sIx items.size items.size hi - sIx items.size 0 lo)).toArray) := by
    show ((items.toList.drop (sIx items.size 0 lo)).take (sIx items.size items.size hi - sIx items.size 0 lo)).toArray.size ≤ sizeLine
    rw [List.size_toArray, List.length_take, List.length_drop, Array.length_toList]
    omega
  have hj : sIx items.size items.size hi ≤ items.size := sIx_le _ _ (Nat.le_refl _) hi
  obtain ⟨os, hos, hcs, hds⟩ := id hs
  have hTs : s.TypeIs (.ref sl) "slice" := ⟨os, hos, hcs⟩
  unfold getItem
  try with_reducible refine wpAny_holding ?_
  first | refine wpAny_bind (wpAny_pure ?_) | skip
  refine wpAny_bind (wpAny_sequenceKey ht.typeIs (by decide) ?_)
  refine wpAny_bind (wpAny_callSpecial?_slot (name := Str.ofString "__getitem__") ht.typeIs PyProof.Rows.slot_tuple_getitem
    (wpAny_call_entry PyProof.Rows.slot_tuple_getitem ht.typeIs entry_tuple_getitem ?_ (args_tuple_getitem _ _)))
  show wpAny _ _ (Builtin.Tuple.tupleItemsOf (.ref t) >>= _) _ _ s
  refine wpAny_bind (tupleItemsOf_ ht ?_)
  refine wpAny_bind (wpAny_typeOf hTs ?_)
  rw [if_pos (by decide)]
  refine wpAny_bind (sliceApplied_gen hs pl pu ?_)
  have hno : ¬ ((((sIx items.size 0 lo : Nat) : Int) == 0 && (1 : Int) == 1 && (sIx items.size items.size hi - sIx items.size 0 lo) == items.size) = true) := by
    intro q
    rw [Bool.and_eq_true, Bool.and_eq_true] at q
    have q1 : ((sIx items.size 0 lo : Nat) : Int) = 0 := eq_of_beq q.1.1
    have q2 : sIx items.size items.size hi - sIx items.size 0 lo = items.size := eq_of_beq q.2
    exact hw ⟨by omega, by omega⟩
  show wpAny _ _ (if (((sIx items.size 0 lo : Nat) : Int) == 0 && (1 : Int) == 1 && (sIx items.size items.size hi - sIx items.size 0 lo) == items.size) = true then _ else _) _ _ s
  rw [if_neg hno, pick_gen]
  first
    | exact wpAny_bind (m := Builtin.Tuple.tupleExact _) (wpAny_newObj_type (wpAny_pure ⟨_, rfl, wpAny_pure h⟩) htake)
    | exact wpAny_bind (m := Builtin.Tuple.tupleExact _) (wpAny_newObj_type (wpAny_bind (wpAny_pure (wpAny_pure ⟨_, rfl, wpAny_pure h⟩))) htake)
    | exact wpAny_bind (wpAny_bind (m := Builtin.Tuple.tupleExact _) (wpAny_newObj_type (wpAny_pure (wpAny_pure ⟨_, rfl, wpAny_pure h⟩)) htake))
    | exact wpAny_bind (wpAny_bind (m := Builtin.Tuple.tupleExact _) (wpAny_newObj_type (wpAny_pure ⟨_, rfl, wpAny_pure h⟩) htake))
end
end HT

namespace L2
open PySem PySem.Spec PyProof.Rows

abbrev TO := St → Hp → (Option Int → Hp → Prop) → Prop
/-- a slice's part (left out, or an int) -/
def PO (X : Cx) (e : Option Expr) (t : TO) : Prop :=
  ∀ (pins : List (Addr × Obj)) (s : Shared) (σ : St) (H : Hp) (Q : Option Int → Hp → Prop), Inv X pins σ H s → t σ H Q →
    wpAny (model X.prog X.w) X.A (evalPart e X.env) (fun u s' => ∃ o H', Inv X pins σ H' s' ∧ IsPart u o ∧ Q o H') X.xe s
def tNoPart : TO := fun _ H Q => Q none H
def tPart (t : TE) : TO := fun σ H Q => t σ H fun x H1 => ∃ i, x = .int i ∧ Q (some i) H1

section
variable {X : Cx} {e : Expr} {te : TE} {lo hi : Option Expr} {tl th : TO} {pos p2 : Pos}

theorem po_none : PO X none tNoPart := by
  intro pins s σ H Q I h
  rw [evalPart_none]
  exact wpAny_pure ⟨none, H, I, .none, h⟩
theorem po_some (h : PE X e te) : PO X (some e) (tPart te) := by
  intro pins s σ H Q I hw
  rw [evalPart_some]
  refine thn (h pins s σ H _ I hw) fun u s1 ⟨x, H1, I1, r1, q1⟩ => ?_
  obtain ⟨i, rfl, q⟩ := q1
  obtain ⟨t, rfl⟩ := r1
  exact ⟨some i, H1, I1, .int i t, q⟩

/-- what a slice of a value is, by values: the slice object stands at sl -/
def SlR (X : Cx) (r : V → Option Int → Option Int → Hp → VK → Prop) : Prop :=
  ∀ (pins : List (Addr × Obj)) (s : Shared) (σ : St) (H : Hp) (x : V) (v vl vu : Value) (lo hi : Option Int) (sl : Addr) (Q : VK), Inv X pins σ H s → RelV x v → s.heap.IsSliceOf sl vl vu .none → IsPart vl lo → IsPart vu hi → r x lo hi H Q →
    ∃ T id, typeLookup (.type T) "__getitem__" = pure (some (.builtin id)) ∧ s.TypeIs v T ∧ wpAny (model X.prog X.w) X.A (getItem v (.ref sl)) (EP X pins σ Q) X.xe s
theorem SlR.or {r r' : V → Option Int → Option Int → Hp → VK → Prop} (h : SlR X r) (h' : SlR X r') : SlR X (fun x lo hi H Q => r x lo hi H Q ∨ r' x lo hi H Q) := by
  intro pins s σ H x v vl vu lo hi sl Q I rx hs pl pu q
  rcases q with q | q
  · exact h pins s σ H x v vl vu lo hi sl Q I rx hs pl pu q
  · exact h' pins s σ H x v vl vu lo hi sl Q I rx hs pl pu q
def tSl (r : V → Option Int → Option Int → Hp → VK → Prop) (te : TE) (tl th : TO) : TE := fun σ H Q => te σ H fun x H1 => tl σ H1 fun l H2 => th σ H2 fun u H3 => r x l u H3 Q
/-- a[lo:hi], any a -/
theorem pe_slice {r : V → Option Int → Option Int → Hp → VK → Prop} (hr : SlR X r) (he : PE X e te) (hl : PO X lo tl) (hu : PO X hi th) : PE X (.Subscript e (.Slice lo hi none p2) pos) (tSl r te tl th) := by
  intro pins s σ H Q I h
  refine Subscript_ (thn (he pins s σ H _ I h) fun v s1 ⟨x, H1, I1, r1, q1⟩ => ?_)
  refine wpAny_Slice (thn (hl pins s1 σ H1 _ I1 q1) fun vl s2 ⟨l, H2, I2, pl, q2⟩ => thn (hu pins s2 σ H2 _ I2 q2) fun vu s3 ⟨u, H3, I3, pu, q3⟩ => ?_)
  rw [evalPart_none]
  refine wpAny_pure ?_
  have I4 : Inv X pins σ H3 { s3 with heap := s3.heap.push { cls := .type "slice", data := .fields #[vl, vu, .none] } } := I3.kept (t' := s3.toks) fun b ob q => Heap.get?_push_of_some _ q
  obtain ⟨T, id, hT, ht, hg⟩ := hr pins { s3 with heap := s3.heap.push { cls := .type "slice", data := .fields #[vl, vu, .none] } } σ H3 x v vl vu l u s3.heap.objs.size Q I4 r1 (Heap.IsSliceOf.new ..) pl pu q3
  show wpAny (model X.prog X.w) X.A (subscriptTail e (.Slice lo hi none p2) v (.ref s3.heap.objs.size)) (EP X pins σ Q) X.xe { s3 with heap := s3.heap.push { cls := .type "slice", data := .fields #[vl, vu, .none] } }
  exact tail_any (ops := [.ref s3.heap.objs.size, v]) ht hT hg (by with_unfolding_all rfl)

/-- the items of xs[lo:hi] -/
def cutV (xs : List V) (lo hi : Option Int) : List V := (xs.drop (HT.sIx xs.length 0 lo)).take (HT.sIx xs.length xs.length hi - HT.sIx xs.length 0 lo)
theorem cutV_length (xs : List V) (lo hi : Option Int) : (cutV xs lo hi).length ≤ xs.length := by
  unfold cutV
  rw [List.length_take, List.length_drop]
  omega
/-- t[lo:hi], not the whole of it (the whole would be t itself) -/
def rSlT (K : PySem.W.Frag) : V → Option Int → Option Int → Hp → VK → Prop := fun x lo hi H Q => ∃ a xs, x = .ref a ∧ SqT K H a xs ∧
  ¬ (HT.sIx xs.length 0 lo = 0 ∧ HT.sIx xs.length xs.length hi = xs.length) ∧ ∀ p, H p = none → Q (.ref p) (upd H p (.tup (cutV xs lo hi)))
theorem sl_tup : SlR X (rSlT X.K) := by
  intro pins s σ H x v vl vu lo hi sl Q I rx hs pl pu h
  obtain ⟨a, xs, rfl, hx, hw, q⟩ := h
  cases rx
  obtain ⟨its, r, ht, hz⟩ := I.tuple hx
  have hlen : its.toArray.size = xs.length := by rw [List.size_toArray]; exact r.length.symm
  refine ⟨"tuple", _, PyProof.Rows.slot_tuple_getitem.lookup, ht.typeIs, ?_⟩
  refine HT.getItem_tuple_cut ht hs pl pu (by rw [hlen]; exact hw) ?_ (by rw [hlen]; exact hz)
  rw [hlen]
  refine ⟨.ref s.heap.objs.size, _, I.laid (t' := s.toks) (o := .tup (cutV xs lo hi)) (fun b ob q => Heap.get?_push_of_some _ q) (Nat.le_refl _) ?_, rfl, q _ (I.hok.fresh (Nat.le_refl _))⟩
  exact ⟨Nat.le_trans (cutV_length xs lo hi) hz, _, (r.drop (HT.sIx xs.length 0 lo)).take (HT.sIx xs.length xs.length hi - HT.sIx xs.length 0 lo), IsTup.new _ _⟩

/-- t + u, t not empty: u empty gives t itself -/
def rCatT (K : PySem.W.Frag) : R2 := fun x y H Q => ∃ a b xs ys, x = .ref a ∧ y = .ref b ∧ SqT K H a xs ∧ SqT K H b ys ∧ xs ≠ [] ∧ xs.length + ys.length ≤ sizeLine ∧
  (ys = [] → Q (.ref a) H) ∧ (ys ≠ [] → ∀ p, H p = none → Q (.ref p) (upd H p (.tup (xs ++ ys))))
theorem Vals.nil_iff {xs : List V} {us : List Value} (r : Vals xs us) : us = [] ↔ xs = [] := by
  cases r with
  | nil => simp
  | cons _ _ => simp
theorem op_catT : OpR X (binaryOp .Add) (rCatT X.K) := by
  intro pins s σ H x y v u Q I rx ry h
  obtain ⟨a, b, xs, ys, rfl, rfl, ha, hb, hx, hz, q1, q2⟩ := h
  cases rx
  cases ry
  obtain ⟨its, r1, p1, _⟩ := I.tuple ha
  obtain ⟨its2, r2, p2, _⟩ := I.tuple hb
  refine HT.cat_tup p1 p2 (fun z => hx (r1.nil_iff.mp z)) (fun z => ⟨.ref a, H, I, rfl, q1 (r2.nil_iff.mp z)⟩) (fun z => ?_) (by rw [← r1.length, ← r2.length]; exact hz)
  refine ⟨.ref s.heap.objs.size, _, I.laid (t' := s.toks) (o := .tup (xs ++ ys)) (fun b ob q => Heap.get?_push_of_some _ q) (Nat.le_refl _) ?_, rfl, q2 (fun w => z (r2.nil_iff.mpr w)) _ (I.hok.fresh (Nat.le_refl _))⟩
  exact ⟨by rw [List.length_append]; exact hz, _, r1.append r2, IsTup.new _ _⟩
end
end L2

namespace L2
open PySem PySem.Spec PyProof.Rows

/-- the place that an index of any sign means -/
def ixN (n : Nat) (i : Int) : Option Nat := if 0 ≤ i then (if i < n then some i.toNat else none) else if -(n : Int) ≤ i then some (i + n).toNat else none
def atI {α : Type} (xs : List α) (i : Int) : Option α := (ixN xs.length i).bind fun j => xs[j]?
theorem ixN_seq {n : Nat} {i : Int} {j : Nat} (h : ixN n i = some j) : seqIndex? i n = some j ∧ j < n ∧ -(n : Int) ≤ i ∧ i < n := by
  unfold ixN at h
  by_cases h0 : 0 ≤ i
  · rw [if_pos h0] at h
    by_cases h1 : i < n
    · rw [if_pos h1] at h
      have e : i.toNat = j := Option.some.inj h
      exact ⟨by rw [seqIndex_of h0 h1, e], by omega, by omega, h1⟩
    · rw [if_neg h1] at h; cases h
  · rw [if_neg h0] at h
    by_cases h1 : -(n : Int) ≤ i
    · rw [if_pos h1] at h
      have e : (i + n).toNat = j := Option.some.inj h
      exact ⟨by rw [seqIndex_neg (by omega) h1, e], by omega, h1, by omega⟩
    · rw [if_neg h1] at h; cases h
theorem atI_get {α : Type} {xs : List α} {i : Int} {v : α} (h : atI xs i = some v) : ∃ j, seqIndex? i xs.length = some j ∧ xs[j]? = some v ∧ j < xs.length ∧ -(xs.length : Int) ≤ i ∧ i < xs.length := by
  unfold atI at h
  cases e : ixN xs.length i with
  | none => rw [e] at h; cases h
  | some j =>
    rw [e] at h
    obtain ⟨h1, h2, h3, h4⟩ := ixN_seq e
    exact ⟨j, h1, h, h2, h3, h4⟩
theorem atI_nat {α : Type} {xs : List α} {j : Nat} {v : α} (h : xs[j]? = some v) : atI xs (j : Int) = some v := by
  have hj : j < xs.length := (List.getElem?_eq_some_iff.mp h).1
  have e : ixN xs.length (j : Int) = some j := by
    unfold ixN
    rw [if_pos (by omega), if_pos (by omega)]; simp
  unfold atI; rw [e]; exact h
/-- what stands as an index of a plain subscript -/
def PlainIx (b : Expr) : Prop := ∀ o i, subscripted b false o i = operate [o, i] (getItem o i)
/-- a subscript by values -/
def IxR (X : Cx) (r : R2) : Prop :=
  ∀ (value slice : Expr) (pins : List (Addr × Obj)) (s : Shared) (σ : St) (H : Hp) (x y : V) (v u : Value) (Q : VK), Inv X pins σ H s → RelV x v → RelV y u → r x y H Q →
    subscripted slice false v u = operate [v, u] (getItem v u) → wpAny (model X.prog X.w) X.A (subscriptTail value slice v u) (EP X pins σ Q) X.xe s
/-- a call of a builtin's method by values: the receiver, the arguments -/
def MtR (X : Cx) (id : String) (r : V → List V → Hp → VK → Prop) : Prop :=
  ∀ (pins : List (Addr × Obj)) (s : Shared) (σ : St) (H : Hp) (x : V) (xs : List V) (v : Value) (us : List Value) (Q : VK), Inv X pins σ H s → RelV x v → Vals xs us → r x xs H Q →
    wpAny (model X.prog X.w) X.A (call (.builtin id) (v :: us)) (EP X pins σ Q) X.xe s
section
variable {X : Cx} {a b : Expr} {ta tb : TE} {pos : Pos}
theorem IxR.or {r r' : R2} (h : IxR X r) (h' : IxR X r') : IxR X (fun x y H Q => r x y H Q ∨ r' x y H Q) := by
  intro value slice pins s σ H x y v u Q I rx ry q hs
  rcases q with q | q
  · exact h value slice pins s σ H x y v u Q I rx ry q hs
  · exact h' value slice pins s σ H x y v u Q I rx ry q hs
theorem MtR.or {id : String} {r r' : V → List V → Hp → VK → Prop} (h : MtR X id r) (h' : MtR X id r') : MtR X id (fun x xs H Q => r x xs H Q ∨ r' x xs H Q) := by
  intro pins s σ H x xs v us Q I rx rs q
  rcases q with q | q
  · exact h pins s σ H x xs v us Q I rx rs q
  · exact h' pins s σ H x xs v us Q I rx rs q
/-- a[b] -/
theorem pe_ix {r : R2} (hr : IxR X r) (ha : PE X a ta) (hb : PE X b tb) (hs : PlainIx b) : PE X (.Subscript a b pos) (tOp r ta tb) := by
  intro pins s σ H Q I h
  exact Subscript_ (binT ha hb I h fun v u s2 x y H2 I2 rx ry q => hr a b pins s2 σ H2 x y v u Q I2 rx ry q (hs _ _))

def rIxL (K : PySem.W.Frag) : R2 := fun x y H Q => ∃ p xs i v, x = .ref p ∧ y = .int i ∧ SqL K H p xs ∧ atI xs i = some v ∧ Q v H
def rIxT (K : PySem.W.Frag) : R2 := fun x y H Q => ∃ p xs i v, x = .ref p ∧ y = .int i ∧ SqT K H p xs ∧ atI xs i = some v ∧ Q v H
def rIxS : R2 := fun x y H Q => ∃ z i c, x = .str z ∧ y = .int i ∧ z.length ≤ sizeLine ∧ atI z.cps.toList i = some c ∧ Q (.str ⟨#[c]⟩) H
theorem ix_list : IxR X (rIxL X.K) := by
  intro value slice pins s σ H x y v u Q I rx ry h hs
  obtain ⟨p, xs, i, z, rfl, rfl, hq, he, q⟩ := h
  cases rx
  obtain ⟨t, rfl⟩ := ry
  obtain ⟨its, r, pl, hz⟩ := I.list hq
  obtain ⟨j, h1, h2, h3, h4, h5⟩ := atI_get he
  obtain ⟨w, ew, rw'⟩ := r.get h2
  have hl := r.length
  have hn := line63
  have fin : EP X pins σ Q w s := ⟨z, H, I, rw', q⟩
  by_cases h0 : 0 ≤ i
  · have hj : i.toNat = j := by
      rw [seqIndex_of h0 h5] at h1
      exact Option.some.inj h1
    exact item_listR pl.isList h0 (by omega) (by rw [hj]; simpa using ew) fin hs
  · have hj : (i + (its.toArray.size : Int)).toNat = j := by
      rw [seqIndex_neg (by omega) h4] at h1
      rw [List.size_toArray, ← hl]
      exact Option.some.inj h1
    exact subscriptTail_builtinR (x := w) pl.isList.typeIs slot_list_getitem.lookup
      (wpAny_getItem_list_neg (Q := fun r s' => r = w ∧ EP X pins σ Q r s') pl.isList (by omega) (by rw [List.size_toArray] <;> omega) (by omega) (by rw [hj]; simpa using ew) ⟨rfl, fin⟩) hs
theorem ix_tup : IxR X (rIxT X.K) := by
  intro value slice pins s σ H x y v u Q I rx ry h hs
  obtain ⟨p, xs, i, z, rfl, rfl, hq, he, q⟩ := h
  cases rx
  obtain ⟨t, rfl⟩ := ry
  obtain ⟨its, r, pl, hz⟩ := I.tuple hq
  obtain ⟨j, h1, h2, h3, h4, h5⟩ := atI_get he
  obtain ⟨w, ew, rw'⟩ := r.get h2
  have hl := r.length
  have hn := line63
  have fin : EP X pins σ Q w s := ⟨z, H, I, rw', q⟩
  exact subscriptTail_builtinR (x := w) pl.typeIs slot_tuple_getitem.lookup
    (getItem_tuple (j := j) (Q := fun r s' => r = w ∧ EP X pins σ Q r s') pl (by omega) (by omega) (by rw [List.size_toArray, ← hl]; exact h1) (by simpa using ew) ⟨rfl, fin⟩) hs
theorem ix_str : IxR X rIxS := by
  intro value slice pins s σ H x y v u Q I rx ry h hs
  obtain ⟨z, i, c, rfl, rfl, hz, he, q⟩ := h
  obtain ⟨t, rfl⟩ := rx
  obtain ⟨t', rfl⟩ := ry
  obtain ⟨j, h1, h2, h3, h4, h5⟩ := atI_get he
  have hl : z.cps.toList.length = z.length := by simp [Str.length]
  rw [hl] at h1 h4 h5
  have hn := line63
  exact tail_any (typeIs_str s z t) slot_str_getitem.lookup (getItem_str (c := c) (by
    have e1 : decide (i < -(2 ^ 63 : Int)) = false := decide_eq_false (by omega)
    have e2 : decide (i ≥ 2 ^ 63) = false := decide_eq_false (by omega)
    rw [e1, e2, Bool.or_false]) (by rw [h1]; simpa using h2) ⟨.str ⟨#[c]⟩, H, I.tok _, ⟨_, rfl⟩, q⟩) hs
/-- list, tuple or str -/
def rIx (K : PySem.W.Frag) : R2 := fun x y H Q => rIxL K x y H Q ∨ rIxT K x y H Q ∨ rIxS x y H Q
theorem ix_seq : IxR X (rIx X.K) := ix_list.or (ix_tup.or ix_str)

/-- the list's object behind a store -/
theorem mapSeq_set (its : List Value) (n j : Nat) (u : Value) : Obj.mapSeq (·.setIfInBounds j u) { cls := .type "list", data := .seq its.toArray n } = { cls := .type "list", data := .seq (its.set j u).toArray n } := by
  simp [Obj.mapSeq]
theorem Inv.lst {pins : List (Addr × Obj)} {σ : St} {H : Hp} {s : Shared} {p : Addr} {xs : List V} (I : Inv X pins σ H s) (h : H p = some (.lst xs)) :
    ∃ (its : List Value) (n : Nat), Vals xs its ∧ s.heap.get? p = some { cls := .type "list", data := .seq its.toArray n } ∧ xs.length ≤ sizeLine := by
  obtain ⟨z, its, n, r, e⟩ := I.hok p _ h
  exact ⟨its, n, r, e, z⟩
/-- the list at p is written by an update of its object -/
theorem Inv.lstUpd {pins : List (Addr × Obj)} {σ : St} {H : Hp} {s : Shared} {p : Addr} {xs ys : List V} {its its' : List Value} {n n' : Nat} {f : Obj → Obj} (I : Inv X pins σ H s) (h : H p = some (.lst xs))
    (ho : s.heap.get? p = some { cls := .type "list", data := .seq its.toArray n }) (hf : f { cls := .type "list", data := .seq its.toArray n } = { cls := .type "list", data := .seq its'.toArray n' }) (r : Vals ys its') (hz : ys.length ≤ sizeLine) (t : Nat) :
    Inv X pins σ (upd H p (.lst ys)) { s with heap := s.heap.update p f, toks := t } := by
  have e : (s.heap.update p f).get? p = some { cls := .type "list", data := .seq its'.toArray n' } := by
    rw [Heap.get?_update_self f ho (by rw [hf] <;> rfl), hf]
  refine I.write (x := p) (e := p) (by rw [h]; trivial) (.inl rfl) (fun b u hb q => (Heap.get?_update_other _ _ (Ne.symm hb)).trans q) ⟨_, e⟩ ?_
  exact ⟨hz, its', n', r, e⟩
def rSetL : V → V → V → Hp → (Hp → Prop) → Prop := fun o i v H Q => ∃ p xs k j, o = .ref p ∧ i = .int k ∧ H p = some (.lst xs) ∧ ixN xs.length k = some j ∧ Q (upd H p (.lst (xs.set j v)))
theorem set_list : PSet X rSetL := by
  intro pins s σ H o i v ov iv u Q I ro ri rv h
  obtain ⟨p, xs, k, j, rfl, rfl, hp, hj, q⟩ := h
  cases ro
  obtain ⟨t, rfl⟩ := ri
  obtain ⟨its, n, r, ho, hz⟩ := I.lst hp
  obtain ⟨h1, h2, h3, h4⟩ := ixN_seq hj
  have hl := r.length
  have hn := line63
  have I' : Inv X pins σ (upd H p (.lst (xs.set j v))) { s with heap := s.heap.update p (Obj.mapSeq (·.setIfInBounds j u)) } :=
    I.lstUpd hp ho (mapSeq_set its n j u) (r.set rv j) (by rw [List.length_set]; exact hz) s.toks
  by_cases h0 : 0 ≤ k
  · have hk : k.toNat = j := by
      rw [seqIndex_of h0 h4] at h1
      exact Option.some.inj h1
    exact PySem.W.ki_setAt ho h0 (by omega) (by rw [List.size_toArray, ← hl]; exact h4) (by rw [hk]; exact ⟨_, I', q⟩)
  · have hk : (k + (its.toArray.size : Int)).toNat = j := by
      rw [seqIndex_neg (by omega) h3] at h1
      rw [List.size_toArray, ← hl]
      exact Option.some.inj h1
    exact PySem.W.ki_setBack ho (by omega) (by rw [List.size_toArray, ← hl]; exact h3) (by omega) (by rw [hk]; exact ⟨_, I', q⟩)

theorem slice_bounds (lo hi : Option Int) (n : Nat) : (sliceBounds lo hi none n).1 = ((HT.sIx n 0 lo : Nat) : Int) ∧ (sliceBounds lo hi none n).2.1 = ((HT.sIx n n hi : Nat) : Int) ∧ (sliceBounds lo hi none n).2.2 = 1 := by
  refine ⟨?_, ?_, rfl⟩
  · cases lo with
    | none => simp [sliceBounds, HT.sIx]
    | some i =>
      simp only [sliceBounds, HT.sIx, Option.getD_none, show (1 : Int) > 0 by decide, if_true]
      by_cases h : i < 0
      · simp only [h, if_true] <;> omega
      · simp only [h, if_false] <;> omega
  · cases hi with
    | none => simp [sliceBounds, HT.sIx]
    | some i =>
      simp only [sliceBounds, HT.sIx, Option.getD_none, show (1 : Int) > 0 by decide, if_true]
      by_cases h : i < 0
      · simp only [h, if_true] <;> omega
      · simp only [h, if_false] <;> omega
theorem slicePick_cut (its : List Value) (lo hi : Option Int) : slicePick its.toArray lo hi none = ((its.drop (HT.sIx its.length 0 lo)).take (HT.sIx its.length its.length hi - HT.sIx its.length 0 lo)).toArray := by
  obtain ⟨h1, h2, h3⟩ := slice_bounds lo hi its.toArray.size
  unfold slicePick
  rw [h1, h2, h3]
  simp only [sliceRange_one, pick_run, List.size_toArray] <;> rfl
/-- xs[lo:hi] of a list: a new list -/
def rSlL (K : PySem.W.Frag) : V → Option Int → Option Int → Hp → VK → Prop := fun x lo hi H Q => ∃ a xs, x = .ref a ∧ SqL K H a xs ∧ ∀ p, H p = none → Q (.ref p) (upd H p (.lst (cutV xs lo hi)))
theorem sl_list : SlR X (rSlL X.K) := by
  intro pins s σ H x v vl vu lo hi sl Q I rx hs pl pu h
  obtain ⟨a, xs, rfl, hx, q⟩ := h
  cases rx
  obtain ⟨its, r, ht, hz⟩ := I.list hx
  have hlen := r.length
  refine ⟨"list", _, slot_list_getitem.lookup, ht.isList.typeIs, ?_⟩
  refine wpAny_getItem_list_slice ht.isList hs pl pu .none (by simp) ?_ (by rw [List.size_toArray] <;> omega)
  rw [slicePick_cut, ← hlen]
  refine ⟨.ref s.heap.objs.size, _, I.laid (t' := s.toks) (o := .lst (cutV xs lo hi)) (fun b ob q => Heap.get?_push_of_some _ q) (Nat.le_refl _) ?_, rfl, q _ (I.hok.fresh (Nat.le_refl _))⟩
  exact ⟨Nat.le_trans (cutV_length xs lo hi) hz, _, 0, (r.drop (HT.sIx xs.length 0 lo)).take (HT.sIx xs.length xs.length hi - HT.sIx xs.length 0 lo), Heap.get?_push_size _ rfl⟩

theorem call_len_seq : CallR X (.builtin "len") (fun xs H Q => ∃ p ys, xs = [.ref p] ∧ (SqL X.K H p ys ∨ SqT X.K H p ys) ∧ Q (.int ys.length) H) := by
  intro pins s σ H xs us Q I r h
  obtain ⟨p, ys, rfl, hq, q⟩ := h
  obtain ⟨u, rfl, rx⟩ := vals1 r
  cases rx
  have hn := line63
  rcases hq with hq | hq
  · obtain ⟨its, r', pl, hz⟩ := I.list hq
    have hlen := r'.length
    exact Calls.call_len_list pl.isList (by simp only [List.size_toArray] <;> omega) ⟨.int ys.length, H, I.tok _, ⟨s.toks + 1, by rw [List.size_toArray, hlen]⟩, q⟩
  · obtain ⟨its, r', pl, hz⟩ := I.tuple hq
    have hlen := r'.length
    exact len_tuple pl (by simp only [List.size_toArray] <;> omega) ⟨.int ys.length, H, I.tok _, ⟨s.toks + 1, by rw [List.size_toArray, hlen]⟩, q⟩
theorem call_len_str : CallR X (.builtin "len") (fun xs H Q => ∃ z, xs = [.str z] ∧ z.length ≤ sizeLine ∧ Q (.int z.length) H) := by
  intro pins s σ H xs us Q I r h
  obtain ⟨z, rfl, hz, q⟩ := h
  obtain ⟨u, rfl, t, rfl⟩ := vals1 r
  have hn := line63
  exact len_str (by omega) ⟨.int z.length, H, I.tok _, ⟨_, rfl⟩, q⟩
theorem CallR.or {f : Value} {r r' : List V → Hp → VK → Prop} (h : CallR X f r) (h' : CallR X f r') : CallR X f (fun xs H Q => r xs H Q ∨ r' xs H Q) := by
  intro pins s σ H xs us Q I rs q
  rcases q with q | q
  · exact h pins s σ H xs us Q I rs q
  · exact h' pins s σ H xs us Q I rs q
/-- the value is of that builtin type -/
def tyV (K : PySem.W.Frag) (T : String) (x : V) (H : Hp) : Prop := match x with
  | .str _ => T = "str"
  | .int _ => T = "int"
  | .ref p => (T = "list" ∧ ∃ xs, SqL K H p xs) ∨ (T = "tuple" ∧ ∃ o, K.lookup p = some o ∧ o.cls = .type "tuple" ∧ o.dict = none) ∨
      (T = "dict" ∧ ((∃ kvs, H p = some (.dK kvs)) ∨ ∃ kvs, H p = some (.dT kvs))) ∨ (T = "set" ∧ ∃ S n, H p = some (.set S n))
  | _ => False
theorem tyV_is {pins : List (Addr × Obj)} {σ : St} {H : Hp} {s : Shared} {T : String} {x : V} {v : Value} (I : Inv X pins σ H s) (r : RelV x v) (ty : tyV X.K T x H) :
    s.TypeIs v T ∧ ∀ a, v = .ref a → ∃ ob, s.heap.get? a = some ob ∧ ob.dict = none := by
  cases x with
  | str z =>
    obtain ⟨t, rfl⟩ := r
    cases (show T = "str" from ty)
    exact ⟨typeIs_str s z t, fun _ e => nomatch e⟩
  | int i =>
    obtain ⟨t, rfl⟩ := r
    cases (show T = "int" from ty)
    exact ⟨typeIs_int s i t, fun _ e => nomatch e⟩
  | ref p =>
    cases r
    rcases ty with ⟨rfl, xs, hq⟩ | ⟨rfl, o, hk, hc, hd⟩ | ⟨rfl, hk⟩ | ⟨rfl, S, n, hk⟩
    · obtain ⟨its, _, pl, _⟩ := I.list hq
      refine ⟨pl.isList.typeIs, fun a e => ?_⟩
      cases e
      obtain ⟨o, n, e, c, hd, _⟩ := pl
      exact ⟨o, e, hd⟩
    · refine ⟨⟨o, I.kIn p o hk, hc⟩, fun a e => ?_⟩
      cases e
      exact ⟨o, I.kIn _ o hk, hd⟩
    · have z : ∃ o, s.heap.get? p = some o ∧ o.ExactDict := by
        rcases hk with ⟨kvs, hk⟩ | ⟨kvs, hk⟩
        · obtain ⟨_, _, _, _, o, _, _, e, ex, _⟩ := I.hok p _ hk
          exact ⟨o, e, ex⟩
        · obtain ⟨_, _, _, _, o, _, _, e, ex, _⟩ := I.hok p _ hk
          exact ⟨o, e, ex⟩
      obtain ⟨o, e, ex⟩ := z
      refine ⟨⟨o, e, ex.1⟩, fun a e2 => ?_⟩
      cases e2
      exact ⟨o, e, ex.2.1⟩
    · obtain ⟨o, _, _, _, e, ex, _⟩ := I.hok p _ hk
      refine ⟨⟨o, e, ex.1⟩, fun a e2 => ?_⟩
      cases e2
      exact ⟨o, e, ex.2.1⟩
  | _ => exact False.elim ty
def tBM (K : PySem.W.Frag) (T : String) (r : V → List V → Hp → VK → Prop) (to : TE) (t : TA) : TE := fun σ H Q => to σ H fun x H1 => tyV K T x H1 ∧ t σ H1 fun xs H2 => r x xs H2 Q
variable {o e : Expr} {es : List Expr} {to : TE} {t : TA} {name : Str} {apos cpos : Pos} {T id : String} {r : V → List V → Hp → VK → Prop}
theorem pe_bm (pa : PlainAttrs T) (slot : Slot T name id) (hty : typeOf (.builtin id) = pure (.type "method_descriptor")) (hm : MtR X id r) (ho : PE X o to) (ha : PA X (e :: es) t)
    (hbase : attributeBase o name X.env (eval o X.env) = eval o X.env := by rfl)
    (hfew : ((backTo cpos (starEach (e :: es) X.env)).all (fun x => !x.1) && (backToKw cpos (keywordEach [] X.env)).all (fun x => x.1.isSome)
      && decide ((e :: es).length + ([] : List Keyword).length + (if ([] : List Keyword).isEmpty then 0 else 1) < 30)) = true := by rfl)
    (hline : (apos.endLine == cpos.line) = true := by rfl) (hs : starEach (e :: es) X.env = (false, eval e X.env) :: starEach es X.env := by rfl) (hplain : (backTo cpos (starEach es X.env)).any (·.1) = false := by rfl) :
    PE X (.Call (.Attribute o name apos) (e :: es) [] cpos) (tBM X.K T r to t) := by
  intro pins s σ H Q I h
  refine wpAny_Call_method_late hbase hfew hline rfl (thn (ho pins s σ H _ I h) fun v s1 ⟨x, H1, I1, r1, ty, q1⟩ => ?_)
  obtain ⟨h1, h2⟩ := tyV_is I1 r1 ty
  refine ⟨T, id, pa, slot, hty, h1, h2, ?_⟩
  have hA := ha cpos pins s1 σ H1 _ I1 q1
  rw [hs] at hA ⊢
  refine Calls.callWith_builtin (by show (false || (backTo cpos (starEach es X.env)).any (·.1)) = false; rw [hplain] <;> rfl) (Calls.evalArgs_plain ?_)
  exact thn hA fun us s2 ⟨vs, H2, I2, r2, q2⟩ => hm pins s2 σ H2 x vs v us Q I2 r1 r2 q2
end
end L2

namespace L2
open PySem PySem.Spec PyProof.Rows

theorem Vals.one : ∀ {x : V} {us : List Value}, Vals [x] us → ∃ u, us = [u] ∧ RelV x u
  | _, _, .cons r .nil => ⟨_, rfl, r⟩
theorem Vals.two : ∀ {x y : V} {us : List Value}, Vals [x, y] us → ∃ u v, us = [u, v] ∧ RelV x u ∧ RelV y v
  | _, _, _, .cons r (.cons q .nil) => ⟨_, _, rfl, r, q⟩
theorem Vals.zero : ∀ {us : List Value}, Vals [] us → us = []
  | _, .nil => rfl
theorem Vals.eraseIdx : ∀ {xs : List V} {us : List Value} (i : Nat), Vals xs us → Vals (xs.eraseIdx i) (us.eraseIdx i)
  | _, _, _, .nil => .nil
  | _, _, 0, .cons _ t => t
  | _, _, i + 1, .cons r t => .cons r (Vals.eraseIdx i t)
theorem Vals.reverse {xs : List V} {us : List Value} (h : Vals xs us) : Vals xs.reverse us.reverse := by
  induction h with
  | nil => exact .nil
  | cons r t ih => rw [List.reverse_cons, List.reverse_cons]; exact Vals.append ih (.cons r .nil)
section
variable {X : Cx} {pins : List (Addr × Obj)} {σ : St} {H : Hp} {s : Shared} {l b : Addr} {xs ys zs : List V}

theorem Inv.lnew {its : List Value} {t' : Nat} (I : Inv X pins σ H s) (hv : Vals ys its) (hz : ys.length ≤ sizeLine) :
    Inv X pins σ (upd H s.heap.objs.size (.lst ys)) { s with heap := s.heap.push { cls := .type "list", data := .seq its.toArray }, toks := t' } :=
  I.laid (fun _ _ q => Heap.get?_push_of_some _ q) (Nat.le_refl _) ⟨hz, its, 0, hv, Heap.get?_push_size _ rfl⟩
theorem Inv.fresh (I : Inv X pins σ H s) : H s.heap.objs.size = none := I.hok.fresh (Nat.le_refl _)
end

section
variable {X : Cx}

end

section
variable {prog : Program} {w : World} {A : Around} {E : Value → Shared → Prop} {s : Shared}
end

section
variable {X : Cx}
end
end L2

namespace L2
open PySem PySem.Spec PyProof.Rows

section
variable {κ : Type} [DecidableEq κ]
def valV (kvs : List (κ × V)) (k : κ) : Option V := (kvs.find? fun kv => decide (kv.1 = k)).map (·.2)
/-- in its place, or at the end -/
def putK (kvs : List (κ × V)) (k : κ) (v : V) : List (κ × V) :=
  if (kvs.any fun kv => decide (kv.1 = k)) = true then kvs.map (fun kv => if kv.1 = k then (kv.1, v) else kv) else kvs ++ [(k, v)]
def dropK (kvs : List (κ × V)) (k : κ) : List (κ × V) := kvs.filter fun kv => decide (kv.1 ≠ k)

theorem RelO.getD {o : Option V} {u : Option Value} {d : V} {d' : Value} (r : RelO o u) (rd : RelV d d') : RelV (o.getD d) (u.getD d') := by
  cases o with
  | none => cases u with
    | none => exact rd
    | some _ => exact (show False from r).elim
  | some _ => cases u with
    | none => exact (show False from r).elim
    | some _ => exact r

theorem KV.any {kvs : List (κ × V)} {vs : List (κ × Value)} (r : KV kvs vs) (k : κ) : (kvs.any fun kv => decide (kv.1 = k)) = vs.any fun kv => decide (kv.1 = k) := by
  unfold KV at r
  induction r with
  | nil => rfl
  | cons h t ih => rw [List.any_cons, List.any_cons, ih, h.1]
theorem KV.drop {kvs : List (κ × V)} {vs : List (κ × Value)} (r : KV kvs vs) (k : κ) : KV (dropK kvs k) (without vs k) := by
  unfold KV at r ⊢
  unfold dropK without
  induction r with
  | nil => exact .nil
  | @cons p q ps qs h t ih =>
    obtain ⟨h1, h2⟩ := h
    rw [List.filter_cons, List.filter_cons]
    by_cases e : p.1 = k
    · have a : ¬ decide (p.1 ≠ k) = true := by simp [e]
      have b : ¬ decide (q.1 ≠ k) = true := by simp [h1.symm.trans e]
      rw [if_neg a, if_neg b]; exact ih
    · have e' : ¬ q.1 = k := fun z => e (h1.trans z)
      have a : decide (p.1 ≠ k) = true := by simp [e]
      have b : decide (q.1 ≠ k) = true := by simp [e']
      rw [if_pos a, if_pos b]; exact .cons ⟨h1, h2⟩ ih
theorem KV.keys {kvs : List (κ × V)} {vs : List (κ × Value)} (r : KV kvs vs) : kvs.map (·.1) = vs.map (·.1) := by
  unfold KV at r
  induction r with
  | nil => rfl
  | cons h t ih => rw [List.map_cons, List.map_cons, ih, h.1]
theorem KV.length {kvs : List (κ × V)} {vs : List (κ × Value)} (r : KV kvs vs) : kvs.length = vs.length := Paired.length r
end

/-- raw entries of a dict with tuple keys -/
abbrev KT (H : Hp) : List (List Key × V) → List (List Key × Addr × Value) → Prop := Paired fun p q => p.1 = q.1 ∧ H q.2.1 = some (.tup (p.1.map kV)) ∧ RelV p.2 q.2.2
theorem KT.keeps {H H' : Hp} {kvs : List (List Key × V)} {xs : List (List Key × Addr × Value)} (r : KT H kvs xs) (ht : ∀ b ys, H b = some (.tup ys) → H' b = some (.tup ys)) : KT H' kvs xs :=
  Paired.mapP r fun _ _ z => ⟨z.1, ht _ _ z.2.1, z.2.2⟩

section
variable {P : Program} {w : World} {H : Hp} {h : Heap} {a : Addr}
end

/-- what the dict at a holds at the key y -/
def DGet (H : Hp) (a : Addr) (y : V) (r : Option V) : Prop :=
  (∃ kvs k, Rd H a (.dK kvs) ∧ y = kV k ∧ r = valV kvs k) ∨ ∃ kvs k b, Rd H a (.dT kvs) ∧ y = .ref b ∧ H b = some (.tup (k.map kV)) ∧ r = valV kvs k
/-- the heap behind a[y] = v -/
def DPut (H : Hp) (a : Addr) (y v : V) (H' : Hp) : Prop :=
  (∃ kvs k, H a = some (.dK kvs) ∧ y = kV k ∧ kvs.length < sizeLine ∧ H' = upd H a (.dK (putK kvs k v))) ∨
  ∃ kvs k b, H a = some (.dT kvs) ∧ y = .ref b ∧ H b = some (.tup (k.map kV)) ∧ kvs.length < sizeLine ∧ H' = upd H a (.dT (putK kvs k v))
theorem DGet.k {H : Hp} {a : Addr} {kvs : List (Key × V)} {k : Key} (e : H a = some (.dK kvs)) : DGet H a (kV k) (valV kvs k) := .inl ⟨kvs, k, .inl e, rfl, rfl⟩
theorem DGet.t {H : Hp} {a b : Addr} {kvs : List (List Key × V)} {k : List Key} (e : H a = some (.dT kvs)) (eb : H b = some (.tup (k.map kV))) : DGet H a (.ref b) (valV kvs k) := .inr ⟨kvs, k, b, .inl e, rfl, eb, rfl⟩
theorem DPut.k {H : Hp} {a : Addr} {kvs : List (Key × V)} {k : Key} {v : V} (e : H a = some (.dK kvs)) (hl : kvs.length < sizeLine) : DPut H a (kV k) v (upd H a (.dK (putK kvs k v))) := .inl ⟨kvs, k, e, rfl, hl, rfl⟩
theorem DPut.t {H : Hp} {a b : Addr} {kvs : List (List Key × V)} {k : List Key} {v : V} (e : H a = some (.dT kvs)) (eb : H b = some (.tup (k.map kV))) (hl : kvs.length < sizeLine) :
    DPut H a (.ref b) v (upd H a (.dT (putK kvs k v))) := .inr ⟨kvs, k, b, e, rfl, eb, hl, rfl⟩

section
variable {X : Cx} {pins : List (Addr × Obj)} {σ : St} {H : Hp} {s : Shared} {a : Addr} {y v : V} {u r : Value} {o : Option V} {A : Around} {E : Value → Shared → Prop}

theorem Inv.big (I : Inv X pins σ H s) : sysModules < s.heap.objs.size := by
  have h : mainGlobals < s.heap.objs.size := (I.mod.glob.keeps I.bk).lt
  exact Nat.lt_trans (by decide) h

end

section
variable {X : Cx} {pins : List (Addr × Obj)} {σ : St} {H : Hp} {s : Shared} {a : Addr} {kvs : List (Key × V)} {k : Key} {u : Value} {A : Around} {E : Value → Shared → Prop}
end

section
variable {X : Cx} {o i e value : Expr} {pos pos' tpos : Pos} {td ty tv : TE}
end

section
variable {X : Cx} {pos : Pos}
end

section
variable {X : Cx} {pins : List (Addr × Obj)} {σ : St} {H : Hp} {s : Shared} {a : Addr} {y d : V} {u r : Value} {o : Option V} {A : Around} {E : Value → Shared → Prop}
end

section
variable {X : Cx} {o e f : Expr} {apos cpos : Pos} {td ty tx : TE}
end

section
variable {X : Cx} {pins : List (Addr × Obj)} {σ : St} {H : Hp} {s : Shared} {a : Addr} {kvs : List (Key × V)} {A : Around} {E : Value → Shared → Prop}
end

section
variable {X : Cx} {pins : List (Addr × Obj)} {σ : St} {H : Hp} {s : Shared} {a : Addr} {y : V} {u : Value} {A : Around} {E : Value → Shared → Prop}
end
end L2

namespace Att
open PySem PySem.W PySem.Calls PyProof.Rows

theorem ints_of_wellAll {P : Params} {h : Heap} : ∀ (ns : List Int) (vs : List Value), WellAll P h vs (ns.map WData.int) → IntsAre vs ns := by
  intro ns
  induction ns with
  | nil =>
    intro vs w
    rw [List.map_nil] at w
    cases w
    exact .nil
  | cons n ns ih =>
    intro vs w
    rw [List.map_cons] at w
    cases w with
    | cons a b =>
      cases a
      exact .cons _ _ (ih _ b)

theorem script_of {l : OpenLaw} {n : Nat} (hn : l.most = some n) {P : Params} {h : Heap} {args : List WData} {vals : List Value}
    (hpre : l.row.toRowW.claim.pre args = true) (hwl : WellAll P h vals args) :
    ∃ a vs ns, vals = [Value.ref a] ∧ args = [WData.list (ns.map WData.int)] ∧ h.get? a = some { cls := .type "list", data := .seq vs.toArray } ∧ IntsAre vs ns ∧ ns.length ≤ n := by
  have hsh : WShape.hasAll [] args [.list .int] = true := (pre_splitW hpre).1
  have hc : l.pre.holds [] { args := args } = true := (pre_splitW hpre).2
  obtain ⟨d, r, rfl, h1, h2⟩ := hasAllW_cons hsh
  obtain rfl := hasAllW_nil h2
  obtain ⟨xs, rfl, h3⟩ := hasW_list h1
  obtain ⟨ns, rfl⟩ := items_int h3
  have hlen : ns.length ≤ n := by
    unfold OpenLaw.pre at hc
    have h4 : (WTm.not (.lt (.lit (.int (n : Int))) (.len (.arg 0)))).holds [] { args := [.list (ns.map .int)] } = true := by
      have h4 := (holds_andW hc).1
      rw [hn] at h4
      exact h4
    have h5 := condW_of h4 (w_not (w_lt w_lit (w_len_list (w_arg rfl))))
    rw [List.length_map] at h5
    refine Nat.le_of_not_lt fun q => ?_
    have q' : (n : Int) < ((ns.length : Nat) : Int) := by omega
    first
      | (rw [decide_eq_true q'] at h5; exact absurd h5 (by decide))
      | (simp at h5; omega)
  cases hwl with
  | cons w1 w2 =>
    cases w2
    cases w1 with
    | list ho hall => exact ⟨_, _, ns, rfl, rfl, ho, ints_of_wellAll ns _ hall, hlen⟩

theorem post_true (l : OpenLaw) (args : List WData) : l.row.toRowW.claim.post args (.bool true) args = true :=
  postW_of (r := l.row.toRowW) (X := (true == true))
    (show WShape.has [] (.bool true) .bool = true by first | rfl | decide | simp [WShape.has, WShape.arms, WShape.armsAll])
    (show (WTm.eq .res (.lit (.bool true))).value [] { args := args, res := some (.bool true), after := args } = some (.bool (true == true)) from w_eq_bool (w_res rfl) w_lit) rfl

/-- the same from a codeAny of the CALL (for a layer whose function contracts speak of calls) -/
theorem attach_call {l : OpenLaw} {n : Nat} {q : Program} {loose : List Str} {XP : (Str → Option Value) → Heap → Prop} {YP : World → Heap → Prop} {d : DefRec}
    (hn : l.most = some n) (hdf : d.params.defaults = [])
    (call : ∀ (w : World) (s₀ s₁ : Shared) (mg mb : Str → Option Value) (fa : Addr) (o : Obj) (pm cd doc : Value) (a : Addr) (vs : List Value) (ns : List Int),
      Ground q loose [] XP w s₀ mg mb s₁.heap → YP w s₁.heap →
      s₁.heap.get? fa = some o → o.data = .func (docDef d.name d.params d.body d.scope pm cd doc) → s₁.heap.CodeRec cd d.name → mg d.name = some (.ref fa) →
      s₁.heap.get? a = some { cls := .type "list", data := .seq vs.toArray } → IntsAre vs ns → ns.length ≤ n → s₁.gens = #[] →
      codeAny (model l.prog w) callerA (.call (.ref fa) ⟨[.ref a], []⟩) (fun r s' => r = .ok (.ret (.bool true)) ∧ OldK s₁.heap s'.heap ∧ s'.os = s₁.os ∧ AllBare s'.gens) s₁) :
    WalkO q loose XP YP l.row.toRowW d [] (fun f vs => PySem.call f vs) := by
  intro w s₀ s₁ mg mb G Y fa o pm cd doc dV kV ho hd hcd hD hmg hg args vals as hpre hlay hrd hwl hlo
  obtain rfl : dV = .none := Dflts.none hD hdf
  obtain rfl : kV = .none := Dflts.noKw hD
  obtain ⟨a, vs, ns, rfl, rfl, hobj, hints, hlen⟩ := script_of hn hpre hwl
  refine enter_call (codeAny_mono (call w s₀ s₁ mg mb fa o pm cd doc a vs ns G Y ho (fd_plain hd) hcd hmg hobj hints hlen hg) fun r s' hq => ?_)
  obtain ⟨rfl, h2, h3, h4⟩ := hq
  exact ⟨.inl ⟨.bool true, .bool true, [], rfl, fun _ => rfl, .bool true, post_true l _, fun _ => ⟨List.Pairwise.nil, fun _ hm => (nomatch hm)⟩⟩, h2, h3, h4⟩

section
variable {prog : Program} {w : World} {A : Around} {E : Value → Shared → Prop} {s : Shared} {K : Frag}

def ledger (h : Heap) (L d : Addr) : List (Addr × Obj) := (List.range h.objs.size).filterMap fun a => if a = L ∨ a = d then none else (h.get? a).map fun o => (a, o)
end
end Att

namespace L2
open PySem PySem.Spec PyProof.Rows

theorem vals_ints : ∀ {vs : List Value} {ns : List Int}, IntsAre vs ns → Vals (ns.map V.int) vs
  | _, _, .nil => .nil
  | _, _, .cons n t h => .cons ⟨t, rfl⟩ (vals_ints h)

/-- nothing is tracked but the script, known to the object (or it is an object of the module) -/
def Only (H : Hp) : Prop := ∀ b, H b = none ∨ ∃ o xs, H b = some (.frz o (.lst xs))

/-- THE HEAD: the law's promise, at the heap behind the top. F, the promise of the law's def, may use that base is part of the heap (so K.In base, base.Ns mainGlobals mg stand in Mod) -/
theorem law_call {P : Program} {w : World} {K : PySem.W.Frag} {mg mb : Str → Option Value} {CX : CXT} {k : Nat} {fa a : Addr} {fd : FuncData} {x : Str} {sp : Sp} {s₁ : Shared} {vs : List Value} {ns : List Int}
    (KX : K.In s₁.heap) (hns : s₁.heap.Ns mainGlobals mg) (hb : s₁.heap.Ns builtinsNs mb) (hbb : ∀ x : Str, x ≠ "__name__" → mb x = bootBuiltins x) (hlim : s₁.heap.NoLimit) (hg : s₁.gens = #[])
    (ha : s₁.heap.get? a = some { cls := .type "list", data := .seq vs.toArray }) (hi : IntsAre vs ns) (hl : ns.length ≤ sizeLine) (hr : Room k callerA)
    (F : ∀ base : Heap, K.In base → base.Ns mainGlobals mg → FnOk P w K mg base CX k fa fd [x] sp) (hbind : ∀ (s : Shared) (u : Value), BindsTo s fd ⟨[u], []⟩ [(x, u)])
    (hsp : ∀ H : Hp, Only H → SqL K H a (ns.map V.int) → sp [.ref a] H (fun v _ => v = .bl true) fun _ _ _ => False)
    (hCX : ∀ H e s', CX [] H s₁ (fun _ _ _ => False) e s' → False) :
    codeAny (model P w) callerA (.call (.ref fa) ⟨[.ref a], []⟩) (fun r s' => r = .ok (.ret (.bool true)) ∧ OldK s₁.heap s'.heap ∧ s'.os = s₁.os ∧ AllBare s'.gens) s₁ := by
  have rv := vals_ints hi
  have lenV := hi.length
  -- from an abstract heap in which nothing but the script may be tracked
  have core : ∀ H : Hp, Only H → SqL K H a (ns.map V.int) → HOk P w H s₁.heap → (∀ b, H b ≠ none → b = a) → (H a ≠ none → K.lookup a = none) →
      codeAny (model P w) callerA (.call (.ref fa) ⟨[.ref a], []⟩) (fun r s' => r = .ok (.ret (.bool true)) ∧ OldK s₁.heap s'.heap ∧ s'.os = s₁.os ∧ AllBare s'.gens) s₁ := by
    intro H hO hS hok hA hK
    have base_of : ∀ {b : Addr} {o : Obj}, s₁.heap.get? b = some o → H b = none → (hidT s₁.heap H).get? b = some o := fun e n => hidT_get e n
    have noA : ∀ {b : Addr} {o : Obj} {es : Array DictEntry} {ep : Nat}, s₁.heap.get? b = some o → o.data = .dict es ep → H b = none := fun {b o es ep} e d => by
      cases q : H b with
      | none => rfl
      | some u =>
        have e' : b = a := hA b (by rw [q]; simp)
        subst e'
        rw [ha] at e; cases e
        have d' : Data.seq vs.toArray _ = Data.dict es ep := d
        cases d'
    have nsK : ∀ {b : Addr} {m : Str → Option Value}, s₁.heap.Ns b m → (hidT s₁.heap H).Ns b m := fun {b m} ⟨o, es, ep, e, d, r⟩ => ⟨o, es, ep, base_of e (noA e d), d, r⟩
    have hKb : K.In (hidT s₁.heap H) := fun b o e => base_of (KX b o e) (by
      cases q : H b with
      | none => rfl
      | some u =>
        have e' : b = a := hA b (by rw [q]; simp)
        subst e'
        rw [hK (by rw [q]; simp)] at e; cases e)
    have hM : Mod K mg (hidT s₁.heap H) := ⟨hKb, nsK hns, ⟨mb, nsK hb, hbb⟩, let ⟨mc, h1, h2⟩ := hlim; ⟨mc, nsK h1, h2⟩⟩
    have e0 : Env0 P w K mg (hidT s₁.heap H) callerA [] s₁ H := ⟨rfl, hM, fun b o e => of_hidT e, Nat.le_of_eq (hidT_size _ _), trivial, fun b hb => absurd (show b ∈ ([] : List Addr) from hb) (by simp), hok, .of_eq hg⟩
    refine codeAny_mono ((F _ hKb (nsK hns)).run callerA [] s₁ H ⟨[.ref a], []⟩ [.ref a] [.ref a] _ _ hr e0 (hbind s₁ (.ref a)) (.cons rfl .nil) (hsp H hO hS)) fun r s' h => ?_
    cases r with
    | error e => exact (hCX H e s' h).elim
    | ok fl =>
      cases fl with
      | next => exact False.elim h
      | brk => exact False.elim h
      | cont => exact False.elim h
      | ret u =>
        obtain ⟨v, H', os, bare, un, hok', r', q⟩ := h
        have q' : v = .bl true := q
        subst q'
        obtain rfl : u = Value.bool true := r'
        refine ⟨rfl, OldK.of_keep fun b o e => ?_, os, bare⟩
        cases q : H b with
        | none => exact un.keep b o e q (by intro z; exact absurd (show b ∈ ([] : List Addr) from z) (by simp)) (by simp)
        | some u =>
          rcases hO b with z | ⟨ob, xs, z⟩
          · rw [q] at z; cases z
          · have z2 := un.frzs b ob _ z
            obtain ⟨e1, _⟩ := hok b _ z
            obtain ⟨e2, _⟩ := hok' b _ z2
            rw [e] at e1; cases e1
            exact e2
  cases hk : K.lookup a with
  | some o =>
    -- the script is one of the module's own objects
    have e := KX a o hk
    rw [ha] at e
    cases e
    refine core (fun _ => none) (fun _ => .inl rfl) (.inr ⟨_, vs.toArray, _, hk, rfl, rfl, rfl, by rw [List.size_toArray, lenV]; exact hl, by simpa using rv⟩) (fun b u z => by have z' : (none : Option HO) = some u := z; cases z') (fun b z => absurd rfl z) fun z => absurd rfl z
  | none =>
    refine core (fun b => if b = a then some (.frz { cls := .type "list", data := .seq vs.toArray } (.lst (ns.map V.int))) else none) (fun b => ?_) (.inl (.inr ⟨{ cls := .type "list", data := .seq vs.toArray }, if_pos rfl⟩)) (fun b u z => ?_) (fun b z => ?_) fun _ => hk
    · by_cases hb : b = a
      · exact .inr ⟨_, _, if_pos hb⟩
      · exact .inl (if_neg hb)
    · by_cases hb : b = a
      · have z' := (if_pos hb).symm.trans z
        cases z'
        subst hb
        exact ⟨ha, by rw [List.length_map]; exact hl, vs, _, rv, ha⟩
      · have z' := (if_neg hb).symm.trans z
        cases z'
    · by_cases hb : b = a
      · exact hb
      · exact absurd (if_neg hb) z
end L2

namespace L2
open PySem PySem.Spec PyProof.Rows

/-- the goal that k_head leaves (case hc), from the law's promise. F gives the function object fd (K's own) once, then the promise over every base -/
theorem walk_of {l : PySem.W.OpenLaw} {n k : Nat} {q : Program} {loose : List Str} {XP : (Str → Option Value) → Heap → Prop} {YP : World → Heap → Prop} {d : DefRec} {K : Params → PySem.W.Frag} {CX : World → CXT} {sp : World → Sp} {x : Str}
    (hn : l.most = some n) (hn2 : n ≤ sizeLine) (hdf : d.params.defaults = []) (hr : Room k callerA)
    (hY : ∀ (w : World) (h : Heap), YP w h → (K w.params).In h)
    (F : ∀ (w : World) (mg : Str → Option Value) (fa : Addr) (h : Heap), (K w.params).In h → h.Ns mainGlobals mg → mg d.name = some (.ref fa) →
      ∃ fd : FuncData, (∀ (s : Shared) (u : Value), BindsTo s fd ⟨[u], []⟩ [(x, u)]) ∧
        ∀ base : Heap, (K w.params).In base → base.Ns mainGlobals mg → FnOk l.prog w (K w.params) mg base (CX w) k fa fd [x] (sp w))
    (hsp : ∀ (w : World) (H : Hp) (a : Addr) (ns : List Int), ns.length ≤ n → Only H → SqL (K w.params) H a (ns.map V.int) → sp w [.ref a] H (fun v _ => v = .bl true) fun _ _ _ => False)
    (hCX : ∀ (w : World) (H : Hp) (s : Shared) (e : Value) (s' : Shared), CX w [] H s (fun _ _ _ => False) e s' → False) :
    PySem.W.WalkO q loose XP YP l.row.toRowW d [] (fun f vs => PySem.call f vs) := by
  refine Att.attach_call hn hdf fun w s₀ s₁ mg mb fa o pm cd doc a vs ns G Y ho hd hcd hmg hobj hints hlen hg => ?_
  have KX := hY w _ Y
  obtain ⟨fd, hb, hF⟩ := F w mg fa _ KX G.T.g hmg
  exact law_call KX G.T.g G.T.b G.T.builtins G.T.nolimit hg hobj hints (Nat.le_trans hlen hn2) hr hF hb (fun H hO hS => hsp w H a ns hlen hO hS) fun H e s' => hCX w H s₁ e s'
/-- the same where the promise hangs on the written part alone: (sp := My.sp_law), no hole under a binder -/
theorem walk_ofK {l : PySem.W.OpenLaw} {n k : Nat} {q : Program} {loose : List Str} {XP : (Str → Option Value) → Heap → Prop} {YP : World → Heap → Prop} {d : DefRec} {K : Params → PySem.W.Frag} {CX : CXT} {sp : PySem.W.Frag → Sp} {x : Str}
    (hn : l.most = some n) (hn2 : n ≤ sizeLine) (hdf : d.params.defaults = []) (hr : Room k callerA)
    (hY : ∀ (w : World) (h : Heap), YP w h → (K w.params).In h)
    (F : ∀ (w : World) (mg : Str → Option Value) (fa : Addr) (h : Heap), (K w.params).In h → h.Ns mainGlobals mg → mg d.name = some (.ref fa) →
      ∃ fd : FuncData, (∀ (s : Shared) (u : Value), BindsTo s fd ⟨[u], []⟩ [(x, u)]) ∧
        ∀ base : Heap, (K w.params).In base → base.Ns mainGlobals mg → FnOk l.prog w (K w.params) mg base CX k fa fd [x] (sp (K w.params)))
    (hsp : ∀ (K : PySem.W.Frag) (H : Hp) (a : Addr) (ns : List Int), ns.length ≤ n → Only H → SqL K H a (ns.map V.int) → sp K [.ref a] H (fun v _ => v = .bl true) fun _ _ _ => False)
    (hCX : ∀ (H : Hp) (s : Shared) (e : Value) (s' : Shared), CX [] H s (fun _ _ _ => False) e s' → False) :
    PySem.W.WalkO q loose XP YP l.row.toRowW d [] (fun f vs => PySem.call f vs) :=
  walk_of (K := K) (CX := fun _ => CX) (sp := fun w => sp (K w.params)) hn hn2 hdf hr hY F (fun w H a ns h1 h2 h3 => hsp (K w.params) H a ns h1 h2 h3) fun _ H s e s' => hCX H s e s'
end L2

namespace L2
open PySem PySem.Spec PyProof.Rows

def defArgs (s : Stmt) : Arguments := match s with
  | .FunctionDef _ a _ _ _ _ _ _ _ _ => a
  | _ => { posonlyargs := [], args := [], vararg := none, kwonlyargs := [], kw_defaults := [], kwarg := none, defaults := [] }
def defBody (s : Stmt) : List Stmt := match s with
  | .FunctionDef _ _ b _ _ _ _ _ _ _ => b
  | _ => []
def defScope (s : Stmt) : Scope := match s with
  | .FunctionDef _ _ _ _ _ _ sc _ _ _ => sc
  | _ => { kind := .function, names := [], isGenerator := false, isCoroutine := false }

abbrev CX0 : CXT := fun _ _ _ _ _ _ => False
abbrev E0 : XK := fun _ _ _ => False
theorem pass0 {X : Cx} : Passes CX0 X E0 := fun _ _ _ _ _ _ _ h => h.elim

structure Fun (K : PySem.W.Frag) (x qual : Str) (st : Stmt) (f : Addr) (fd : FuncData) : Prop where
  ex : ∃ (oc : Value) (od : Option Addr) (kV doc pm : Value) (an : Option Addr) (cdv ct : Value) (osl : Array (Option Value)),
    fd = PySem.W.fnOf x qual (defArgs st) (defBody st) (defScope st) .none kV doc pm an cdv ct ∧ K.lookup f = some ⟨oc, od, .func fd, osl⟩ ∧ PySem.W.codeIn K cdv qual = true
  kp : PySem.W.keepIn K (.ref f) = true
section
variable {P : Program} {w : World} {K : PySem.W.Frag} {mg : Str → Option Value} {base : Heap}
/-- THE RULE for a def: its body as a term of rules, and the reading of that term -/
theorem Fun.ok {x qual : Str} {st : Stmt} {f : Addr} {fd : FuncData} {N ps : List Str} {k : Nat} {sp : Sp} (F : Fun K x qual st f fd) (S : FnScope N ps (defScope st)) (len : ∀ vs H Q E, sp vs H Q E → vs.length = ps.length)
    (hbody : ∀ (cdv : Value) (A : Around) (outer : List Env) (s : Shared) (H : Hp) (vs : List V) (Q : VK) (E : XK), Room k (A.deeper (envOfC qual (defScope st) s.heap.objs.size f cdv)) → sp vs H Q E →
      ∃ t, PSs (cxOf CX0 P w K mg base N qual (defScope st) f cdv A outer s H E).nox (defBody st) t ∧ t { nx := fun _ H' => Q .non H', rt := Q } (start N vs) H) : FnOk P w K mg base CX0 (k + 1) f fd ps sp := by
  obtain ⟨oc, od, kV, doc, pm, an, cdv, ct, osl, rfl, lk, hcd⟩ := F.ex
  refine fn_of lk hcd S len fun A outer s H vs Q E hr hsp => ?_
  obtain ⟨t, h, q⟩ := hbody cdv A outer s H vs Q E hr hsp
  exact ⟨t, h.nox, q⟩
/-- how its arguments bind (no defaults): h is «fun _ _ _ _ _ _ us hl => match us, hl with | [_, _], _ => rfl», one _ a parameter -/
theorem Fun.binds {x qual : Str} {st : Stmt} {f : Addr} {fd : FuncData} {ps : List Str} (F : Fun K x qual st f fd)
    (h : ∀ (kV doc pm : Value) (an : Option Addr) (cdv ct : Value) (us : List Value), us.length = ps.length → bindArgs (PySem.W.fnOf x qual (defArgs st) (defBody st) (defScope st) .none kV doc pm an cdv ct) ⟨us, []⟩ = pure (ps.zip us)) : Binds K fd ps [] := by
  obtain ⟨oc, od, kV, doc, pm, an, cdv, ct, osl, rfl, lk, hcd⟩ := F.ex
  exact .all (h kV doc pm an cdv ct)
theorem fun_mk {x qual : Str} {st : Stmt} {f : Addr} {oc : Value} {od an : Option Addr} {osl : Array (Option Value)} {kV doc pm cdv ct : Value} (l : K.lookup f = some ⟨oc, od, .func (PySem.W.fnOf x qual (defArgs st) (defBody st) (defScope st) .none kV doc pm an cdv ct), osl⟩)
    (c : PySem.W.codeIn K cdv qual = true) (k : PySem.W.keepIn K (.ref f) = true) : Fun K x qual st f (PySem.W.fnOf x qual (defArgs st) (defBody st) (defScope st) .none kV doc pm an cdv ct) := ⟨⟨oc, od, kV, doc, pm, an, cdv, ct, osl, rfl, l, c⟩, k⟩
end
theorem small1000 {n : Nat} (h : n ≤ 1000) : n < sizeLine := Nat.lt_of_le_of_lt h (by decide)

section
variable {X : Cx}
end

theorem iteF {A B : Prop} (h : B) : if false = true then A else B := by
  rw [if_neg Bool.false_ne_true]
  exact h
theorem iteT {A B : Prop} (h : A) : if true = true then A else B := by
  rw [if_pos rfl]
  exact h
/-- all that was tracked is as it was -/
def Same (H H' : Hp) : Prop := ∀ b o, H b = some o → H' b = some o
theorem Same.refl (H : Hp) : Same H H := fun _ _ h => h
theorem Same.trans {H H1 H2 : Hp} (a : Same H H1) (b : Same H1 H2) : Same H H2 := fun c o h => b c o (a c o h)
theorem Same.free {H H' : Hp} (e : Same H H') {l : Addr} (h : H' l = Option.none) : H l = Option.none := by
  cases q : H l with
  | none => rfl
  | some o =>
    rw [e l o q] at h
    cases h
theorem Same.seq {K : PySem.W.Frag} {H H' : Hp} {a : Addr} {xs : List V} (e : Same H H') (h : SqL K H a xs) : SqL K H' a xs := by
  rcases h with (h | ⟨o, h⟩) | h
  · exact .inl (.inl (e _ _ h))
  · exact .inl (.inr ⟨o, e _ _ h⟩)
  · exact .inr h

end L2
namespace L2
open PySem PySem.Spec PyProof.Rows
section
variable {κ : Type} [DecidableEq κ]
end
end L2

set_option Elab.async false
set_option linter.all false
set_option maxRecDepth 100000
set_option maxHeartbeats 4000000
namespace FL
open PySem PySem.Spec PyProof.Rows L2
abbrev St := L2.St

inductive D where
  | non
  | bl (b : Bool)
  | int (i : Int)
  | str (x : Str)
  | tup (ds : List D)
  | lst (ds : List D)
  deriving Inhabited

mutual
def Has (K : PySem.W.Frag) (H : Hp) : D → V → Prop
  | .non, v => v = .non
  | .bl b, v => v = .bl b
  | .int i, v => v = .int i
  | .str x, v => v = .str x
  | .tup ds, v => ∃ a xs, v = .ref a ∧ SqT K H a xs ∧ HasL K H ds xs
  | .lst ds, v => ∃ a xs, v = .ref a ∧ SqL K H a xs ∧ HasL K H ds xs
def HasL (K : PySem.W.Frag) (H : Hp) : List D → List V → Prop
  | [], xs => xs = []
  | d :: ds, xs => ∃ x r, xs = x :: r ∧ Has K H d x ∧ HasL K H ds r
end

theorem sameR {H : Hp} : Same H H := fun _ _ e => e
theorem sameT {K : PySem.W.Frag} {H H' : Hp} {a : Addr} {xs : List V} (e : Same H H') (h : SqT K H a xs) : SqT K H' a xs := by
  rcases h with (h | ⟨o, h⟩) | h
  · exact .inl (.inl (e _ _ h))
  · exact .inl (.inr ⟨o, e _ _ h⟩)
  · exact .inr h

section
variable {K : PySem.W.Frag} {H H' : Hp}
mutual
theorem Has.mono (s : Same H H') : ∀ {d : D} {v : V}, Has K H d v → Has K H' d v
  | .non, _, h => by unfold Has at h ⊢; exact h
  | .bl _, _, h => by unfold Has at h ⊢; exact h
  | .int _, _, h => by unfold Has at h ⊢; exact h
  | .str _, _, h => by unfold Has at h ⊢; exact h
  | .tup ds, v, h => by
    unfold Has at h ⊢
    obtain ⟨a, xs, e, q, l⟩ := h
    exact ⟨a, xs, e, sameT s q, HasL.mono s l⟩
  | .lst ds, v, h => by
    unfold Has at h ⊢
    obtain ⟨a, xs, e, q, l⟩ := h
    exact ⟨a, xs, e, s.seq q, HasL.mono s l⟩
theorem HasL.mono (s : Same H H') : ∀ {ds : List D} {xs : List V}, HasL K H ds xs → HasL K H' ds xs
  | [], _, h => by unfold HasL at h ⊢; exact h
  | d :: ds, xs, h => by
    unfold HasL at h ⊢
    obtain ⟨x, r, e, h1, h2⟩ := h
    exact ⟨x, r, e, Has.mono s h1, HasL.mono s h2⟩
end
theorem Has.non_iff {v : V} : Has K H .non v ↔ v = .non := by unfold Has; rfl
theorem Has.bl_iff {b : Bool} {v : V} : Has K H (.bl b) v ↔ v = .bl b := by unfold Has; rfl
theorem Has.int_iff {i : Int} {v : V} : Has K H (.int i) v ↔ v = .int i := by unfold Has; rfl
theorem Has.str_iff {x : Str} {v : V} : Has K H (.str x) v ↔ v = .str x := by unfold Has; rfl
theorem Has.tup_iff {ds : List D} {v : V} : Has K H (.tup ds) v ↔ ∃ a xs, v = .ref a ∧ SqT K H a xs ∧ HasL K H ds xs := by
  constructor
  · intro h; unfold Has at h; exact h
  · intro h; unfold Has; exact h
theorem Has.lst_iff {ds : List D} {v : V} : Has K H (.lst ds) v ↔ ∃ a xs, v = .ref a ∧ SqL K H a xs ∧ HasL K H ds xs := by
  constructor
  · intro h; unfold Has at h; exact h
  · intro h; unfold Has; exact h
theorem HasL.nil_iff {xs : List V} : HasL K H [] xs ↔ xs = [] := by unfold HasL; rfl
theorem HasL.cons_iff {d : D} {ds : List D} {xs : List V} : HasL K H (d :: ds) xs ↔ ∃ x r, xs = x :: r ∧ Has K H d x ∧ HasL K H ds r := by
  constructor
  · intro h; unfold HasL at h; exact h
  · intro h; unfold HasL; exact h
theorem HasL.nil : HasL K H [] [] := HasL.nil_iff.mpr rfl
theorem HasL.cons {d : D} {ds : List D} {x : V} {xs : List V} (h : Has K H d x) (t : HasL K H ds xs) : HasL K H (d :: ds) (x :: xs) := HasL.cons_iff.mpr ⟨x, xs, rfl, h, t⟩
theorem HasL.length : ∀ {ds : List D} {xs : List V}, HasL K H ds xs → xs.length = ds.length
  | [], _, h => by rw [HasL.nil_iff] at h; subst h; rfl
  | d :: ds, xs, h => by
    obtain ⟨x, r, e, _, h2⟩ := HasL.cons_iff.mp h
    subst e
    simp [HasL.length h2]
theorem HasL.get : ∀ {ds : List D} {xs : List V} {i : Nat} {d : D}, HasL K H ds xs → ds[i]? = some d → ∃ v, xs[i]? = some v ∧ Has K H d v
  | [], _, _, _, _, e => by simp at e
  | d :: ds, xs, i, d', h, e => by
    obtain ⟨x, r, e', h1, h2⟩ := HasL.cons_iff.mp h
    subst e'
    cases i with
    | zero => simp at e; subst e; exact ⟨x, rfl, h1⟩
    | succ i =>
      obtain ⟨v, q1, q2⟩ := HasL.get (i := i) (d := d') h2 (by simpa using e)
      exact ⟨v, by simpa using q1, q2⟩
theorem HasL.append : ∀ {ds es : List D} {xs ys : List V}, HasL K H ds xs → HasL K H es ys → HasL K H (ds ++ es) (xs ++ ys)
  | [], _, _, _, h, h' => by rw [HasL.nil_iff] at h; subst h; exact h'
  | d :: ds, es, xs, ys, h, h' => by
    obtain ⟨x, r, e, h1, h2⟩ := HasL.cons_iff.mp h
    subst e
    exact .cons h1 (HasL.append h2 h')
theorem HasL.drop : ∀ {ds : List D} {xs : List V} (n : Nat), HasL K H ds xs → HasL K H (ds.drop n) (xs.drop n)
  | _, _, 0, h => by simpa using h
  | [], _, n + 1, h => by rw [HasL.nil_iff] at h; subst h; simpa using HasL.nil
  | d :: ds, xs, n + 1, h => by
    obtain ⟨x, r, e, h1, h2⟩ := HasL.cons_iff.mp h
    subst e
    exact HasL.drop n h2
theorem HasL.take : ∀ {ds : List D} {xs : List V} (n : Nat), HasL K H ds xs → HasL K H (ds.take n) (xs.take n)
  | _, _, 0, h => by simpa using HasL.nil
  | [], _, n + 1, h => by rw [HasL.nil_iff] at h; subst h; simpa using HasL.nil
  | d :: ds, xs, n + 1, h => by
    obtain ⟨x, r, e, h1, h2⟩ := HasL.cons_iff.mp h
    subst e
    exact .cons h1 (HasL.take n h2)
theorem HasL.set {d : D} {x : V} (hx : Has K H d x) : ∀ {ds : List D} {xs : List V} (i : Nat), HasL K H ds xs → HasL K H (ds.set i d) (xs.set i x)
  | [], _, _, h => by rw [HasL.nil_iff] at h; subst h; exact HasL.nil
  | e :: ds, xs, i, h => by
    obtain ⟨y, r, e, h1, h2⟩ := HasL.cons_iff.mp h
    subst e
    cases i with
    | zero => exact .cons hx h2
    | succ i => exact .cons h1 (HasL.set hx i h2)
theorem HasL.reverse {ds : List D} {xs : List V} (h : HasL K H ds xs) : HasL K H ds.reverse xs.reverse := by
  induction ds generalizing xs with
  | nil => rw [HasL.nil_iff] at h; subst h; exact HasL.nil
  | cons d ds ih =>
    obtain ⟨x, r, e, h1, h2⟩ := HasL.cons_iff.mp h
    subst e
    rw [List.reverse_cons, List.reverse_cons]
    exact (ih h2).append (.cons h1 .nil)
theorem HasL.ints : ∀ (ns : List Int), HasL K H (ns.map D.int) (ns.map V.int)
  | [] => .nil
  | n :: ns => .cons (Has.int_iff.mpr rfl) (HasL.ints ns)
end

inductive Slot where
  | no
  | fr (d : D)
  | ol (ds : List D)
  | oT (kvs : List (List Key × D))
  | oK (kvs : List (Key × D))
  deriving Inhabited
def Slot.own : Slot → Bool
  | .ol _ => true
  | .oT _ => true
  | .oK _ => true
  | _ => false
abbrev Rho := List Slot
def KVs (K : PySem.W.Frag) (H : Hp) {κ : Type} : List (κ × D) → List (κ × V) → Prop := Paired fun p q => p.1 = q.1 ∧ Has K H p.2 q.2
theorem KVs.mono {K : PySem.W.Frag} {H H' : Hp} {κ : Type} (s : Same H H') {l : List (κ × D)} {m : List (κ × V)} (h : KVs K H l m) : KVs K H' l m := Paired.mapP h fun _ _ z => ⟨z.1, Has.mono s z.2⟩
/-- an object of one's own, at a -/
def OwnOk (K : PySem.W.Frag) (H Hf : Hp) (a : Addr) : Slot → Prop
  | .ol ds => ∃ xs, H a = some (.lst xs) ∧ HasL K Hf ds xs
  | .oT kvs => ∃ ws, H a = some (.dT ws) ∧ KVs K Hf kvs ws
  | .oK kvs => ∃ ws, H a = some (.dK ws) ∧ KVs K Hf kvs ws
  | _ => True
theorem OwnOk.mono {K : PySem.W.Frag} {H Hf H' Hf' : Hp} {a : Addr} {sl : Slot} (h : OwnOk K H Hf a sl) (k : ∀ o, H a = some o → H' a = some o) (s : Same Hf Hf') : OwnOk K H' Hf' a sl := by
  cases sl with
  | no => trivial
  | fr d => trivial
  | ol ds => obtain ⟨xs, e, q⟩ := h; exact ⟨xs, k _ e, q.mono s⟩
  | oT kvs => obtain ⟨xs, e, q⟩ := h; exact ⟨xs, k _ e, KVs.mono s q⟩
  | oK kvs => obtain ⟨xs, e, q⟩ := h; exact ⟨xs, k _ e, KVs.mono s q⟩
theorem OwnOk.there {K : PySem.W.Frag} {H Hf : Hp} {a : Addr} {sl : Slot} (h : OwnOk K H Hf a sl) (ow : sl.own = true) : ∃ o, H a = some o := by
  cases sl with
  | no => cases ow
  | fr d => cases ow
  | ol ds => obtain ⟨xs, e, q⟩ := h; exact ⟨_, e⟩
  | oT kvs => obtain ⟨xs, e, q⟩ := h; exact ⟨_, e⟩
  | oK kvs => obtain ⟨xs, e, q⟩ := h; exact ⟨_, e⟩

/-- a tuple that can be a key: it never changes, and nothing that it holds does -/
def Tp (o : HO) : Prop := ∃ ks : List Key, o = .tup (ks.map kV)
/-- the state: H the heap, Hf its part that nobody changes any more; H₀, Hf₀ those of the entry -/
structure Rep (K : PySem.W.Frag) (H₀ Hf₀ : Hp) (σ : St) (ρ : Rho) (H Hf : Hp) : Prop where
  s0 : Same H₀ H
  sf : Same Hf H
  nf : ∀ b o, Hf b = some o → Hf₀ b = some o ∨ H₀ b = none ∨ Tp o
  f0 : Same Hf₀ Hf
  len : ρ.length = σ.length
  fr : ∀ (i : Nat) (d : D), ρ[i]? = some (.fr d) → ∃ v, σ[i]? = some (some v) ∧ Has K Hf d v
  ow : ∀ (i : Nat) (sl : Slot), ρ[i]? = some sl → sl.own = true → ∃ a, σ[i]? = some (some (.ref a)) ∧ OwnOk K H Hf a sl ∧ Hf a = none ∧ H₀ a = none
  inj : ∀ (i j : Nat) (sl sl' : Slot) (a : Addr), ρ[i]? = some sl → sl.own = true → ρ[j]? = some sl' → sl'.own = true → σ[i]? = some (some (.ref a)) → σ[j]? = some (some (.ref a)) → i = j

theorem OwnOk.notTp {K : PySem.W.Frag} {H Hf H' : Hp} {a : Addr} {sl : Slot} {u : HO} (h : OwnOk K H Hf a sl) (ow : sl.own = true) (k : ∀ o, H a = some o → H' a = some o) (z : H' a = some u) (t : Tp u) : False := by
  obtain ⟨ks, rfl⟩ := t
  cases sl with
  | no => cases ow
  | fr d => cases ow
  | ol ds => obtain ⟨xs, e, q⟩ := h; have := (k _ e).symm.trans z; cases this
  | oT kvs => obtain ⟨xs, e, q⟩ := h; have := (k _ e).symm.trans z; cases this
  | oK kvs => obtain ⟨xs, e, q⟩ := h; have := (k _ e).symm.trans z; cases this
section
variable {K : PySem.W.Frag} {H₀ Hf₀ : Hp} {σ : St} {ρ : Rho} {H Hf H' Hf' : Hp}
theorem Rep.grow (R : Rep K H₀ Hf₀ σ ρ H Hf) (h1 : Same H H') (h2 : Same Hf Hf') (h3 : Same Hf' H') (h4 : ∀ b o, Hf' b = some o → Hf b = some o ∨ H b = none ∨ Tp o) : Rep K H₀ Hf₀ σ ρ H' Hf' where
  s0 := R.s0.trans h1
  sf := h3
  nf := fun b o e => by
    rcases h4 b o e with q | q | q
    · exact R.nf b o q
    · exact .inr (.inl (R.s0.free q))
    · exact .inr (.inr q)
  f0 := R.f0.trans h2
  len := R.len
  fr := fun i d e => by
    obtain ⟨v, q1, q2⟩ := R.fr i d e
    exact ⟨v, q1, q2.mono h2⟩
  ow := fun i sl e o => by
    obtain ⟨a, q1, q2, q3, q4⟩ := R.ow i sl e o
    refine ⟨a, q1, q2.mono (fun o e => h1 _ _ e) h2, ?_, q4⟩
    obtain ⟨ob, qo⟩ := q2.there o
    cases z : Hf' a with
    | none => rfl
    | some u =>
      rcases h4 a u z with y | y | y
      · rw [q3] at y; cases y
      · rw [qo] at y; cases y
      · exact (q2.notTp o (fun o => h1 a o) (h3 _ _ z) y).elim
  inj := R.inj
/-- a new object, frozen -/
theorem Rep.lay (R : Rep K H₀ Hf₀ σ ρ H Hf) {p : Addr} {o : HO} (hp : H p = none) : Rep K H₀ Hf₀ σ ρ (upd H p o) (upd Hf p o) := by
  have hfp : Hf p = none := R.sf.free hp
  refine R.grow (fun b u e => ?_) (fun b u e => ?_) (fun b u e => ?_) (fun b u e => ?_)
  · rw [upd_ne (ne_of_none e hp)]; exact e
  · rw [upd_ne (ne_of_none e hfp)]; exact e
  · by_cases hb : b = p
    · subst hb; rw [upd_same] at e ⊢; exact e
    · rw [upd_ne hb] at e ⊢; exact R.sf b u e
  · by_cases hb : b = p
    · subst hb; exact .inr (.inl hp)
    · rw [upd_ne hb] at e; exact .inl e
/-- a new object, not frozen -/
theorem Rep.layN (R : Rep K H₀ Hf₀ σ ρ H Hf) {p : Addr} {o : HO} (hp : H p = none) : Rep K H₀ Hf₀ σ ρ (upd H p o) Hf := by
  refine R.grow (fun b u e => ?_) sameR (fun b u e => ?_) (fun b u e => .inl e)
  · rw [upd_ne (ne_of_none e hp)]; exact e
  · rw [upd_ne (ne_of_none (R.sf b u e) hp)]; exact R.sf b u e
theorem same_upd {p : Addr} {o : HO} (hp : H p = none) : Same H (upd H p o) := fun b u e => by rw [upd_ne (ne_of_none e hp)]; exact e
theorem Rep.set (R : Rep K H₀ Hf₀ σ ρ H Hf) {d : D} {v : V} (i : Nat) (h : Has K Hf d v) : Rep K H₀ Hf₀ (σ.set i (some v)) (ρ.set i (.fr d)) H Hf where
  s0 := R.s0
  sf := R.sf
  nf := R.nf
  f0 := R.f0
  len := by simp [R.len]
  fr := fun j d' e => by
    rw [List.getElem?_set] at e ⊢
    by_cases hj : i = j
    · rw [if_pos hj] at e ⊢
      split at e
      · cases e
        rename_i hl
        rw [R.len] at hl
        rw [if_pos hl]
        exact ⟨v, rfl, h⟩
      · cases e
    · rw [if_neg hj] at e ⊢
      exact R.fr j d' e
  ow := fun j sl e o => by
    rw [List.getElem?_set] at e ⊢
    by_cases hj : i = j
    · rw [if_pos hj] at e
      split at e
      · cases e; cases o
      · cases e
    · rw [if_neg hj] at e ⊢
      exact R.ow j sl e o
  inj := fun j k sl sl' a e o e' o' z z' => by
    rw [List.getElem?_set] at e e' z z'
    by_cases hj : i = j
    · rw [if_pos hj] at e
      split at e
      · cases e; cases o
      · cases e
    · by_cases hk : i = k
      · rw [if_pos hk] at e'
        split at e'
        · cases e'; cases o'
        · cases e'
      · rw [if_neg hj] at e z
        rw [if_neg hk] at e' z'
        exact R.inj j k sl sl' a e o e' o' z z'
/-- a name takes an object of its own -/
theorem Rep.setOwn (R : Rep K H₀ Hf₀ σ ρ H Hf) {sl : Slot} {a : Addr} (i : Nat) (ho : sl.own = true) (h : OwnOk K H Hf a sl) (hf : Hf a = none) (h0 : H₀ a = none)
    (fresh : ∀ (j : Nat) (sl' : Slot), ρ[j]? = some sl' → sl'.own = true → σ[j]? ≠ some (some (.ref a))) : Rep K H₀ Hf₀ (σ.set i (some (.ref a))) (ρ.set i sl) H Hf where
  s0 := R.s0
  sf := R.sf
  nf := R.nf
  f0 := R.f0
  len := by simp [R.len]
  fr := fun j d' e => by
    rw [List.getElem?_set] at e ⊢
    by_cases hj : i = j
    · rw [if_pos hj] at e
      split at e
      · cases e; cases ho
      · cases e
    · rw [if_neg hj] at e ⊢
      exact R.fr j d' e
  ow := fun j sl' e o => by
    rw [List.getElem?_set] at e ⊢
    by_cases hj : i = j
    · rw [if_pos hj] at e ⊢
      split at e
      · cases e
        rename_i hl
        rw [R.len] at hl
        rw [if_pos hl]
        exact ⟨a, rfl, h, hf, h0⟩
      · cases e
    · rw [if_neg hj] at e ⊢
      exact R.ow j sl' e o
  inj := fun j k s1 s2 b e o e' o' z z' => by
    rw [List.getElem?_set] at e e' z z'
    by_cases hj : i = j
    · by_cases hk : i = k
      · omega
      · rw [if_pos hj] at z
        rw [if_neg hk] at e' z'
        split at z
        · cases z
          exact absurd z' (fresh k s2 e' o')
        · cases z
    · by_cases hk : i = k
      · rw [if_pos hk] at z'
        rw [if_neg hj] at e z
        split at z'
        · cases z'
          exact absurd z (fresh j s1 e o)
        · cases z'
      · rw [if_neg hj] at e z
        rw [if_neg hk] at e' z'
        exact R.inj j k s1 s2 b e o e' o' z z'
/-- an object of one's own is changed -/
theorem Rep.updOwn (R : Rep K H₀ Hf₀ σ ρ H Hf) {sl sl' : Slot} {a : Addr} {o : HO} {i : Nat} (e : ρ[i]? = some sl) (ho : sl.own = true) (ea : σ[i]? = some (some (.ref a))) (ho' : sl'.own = true) (h : OwnOk K (upd H a o) Hf a sl') :
    Rep K H₀ Hf₀ σ (ρ.set i sl') (upd H a o) Hf := by
  obtain ⟨a', q1, q2, q3, q4⟩ := R.ow i sl e ho
  rw [ea] at q1; cases q1
  have hil : i < ρ.length := (List.getElem?_eq_some_iff.mp e).1
  refine ⟨fun b u z => ?_, fun b u z => ?_, R.nf, R.f0, by simp [R.len], fun j d z => ?_, fun j s1 z oz => ?_, fun j k s1 s2 b z oz z' oz' y y' => ?_⟩
  · rw [upd_ne (ne_of_none z q4)]; exact R.s0 b u z
  · rw [upd_ne (ne_of_none z q3)]; exact R.sf b u z
  · rw [List.getElem?_set] at z
    by_cases hj : i = j
    · rw [if_pos hj, if_pos hil] at z
      cases z; cases ho'
    · rw [if_neg hj] at z
      exact R.fr j d z
  · rw [List.getElem?_set] at z
    by_cases hj : i = j
    · rw [if_pos hj, if_pos hil] at z
      cases z
      subst hj
      exact ⟨a, ea, h, q3, q4⟩
    · rw [if_neg hj] at z
      obtain ⟨b, p1, p2, p3, p4⟩ := R.ow j s1 z oz
      refine ⟨b, p1, p2.mono (fun u q => ?_) sameR, p3, p4⟩
      rw [upd_ne]
      · exact q
      · rintro rfl
        exact hj (R.inj i j sl s1 b e ho z oz ea p1)
  · have own_at : ∀ (j : Nat) (s1 : Slot), (ρ.set i sl')[j]? = some s1 → s1.own = true → ∃ s2, ρ[j]? = some s2 ∧ s2.own = true := fun j s1 z oz => by
      rw [List.getElem?_set] at z
      by_cases hj : i = j
      · subst hj; exact ⟨sl, e, ho⟩
      · rw [if_neg hj] at z; exact ⟨s1, z, oz⟩
    obtain ⟨t1, u1, v1⟩ := own_at j s1 z oz
    obtain ⟨t2, u2, v2⟩ := own_at k s2 z' oz'
    exact R.inj j k t1 t2 b u1 v1 u2 v2 y y'
end
end FL

set_option Elab.async false
set_option linter.all false
set_option maxRecDepth 100000
set_option maxHeartbeats 4000000
namespace FL
open PySem PySem.Spec PyProof.Rows L2

abbrev FE := Rho → Option D
abbrev FT := Rho → Option Bool
abbrev FA := Rho → Option (List D)
/-- an end of a statement -/
inductive Out where
  | nx (ρ : Rho)
  | rt (d : D)
  | bk (ρ : Rho)
  | ct (ρ : Rho)
abbrev FS := Rho → Option Out

/-- what is read: frozen, or a list of one's own -/
def HasR (K : PySem.W.Frag) (Hf : Hp) (σ : St) (ρ : Rho) (d : D) (v : V) : Prop := Has K Hf d v ∨ ∃ (i : Nat) (ds : List D), d = .lst ds ∧ ρ[i]? = some (.ol ds) ∧ σ[i]? = some (some v)
theorem HasR.mono {K : PySem.W.Frag} {Hf Hf' : Hp} {σ : St} {ρ : Rho} {d : D} {v : V} (h : HasR K Hf σ ρ d v) (s : Same Hf Hf') : HasR K Hf' σ ρ d v := h.imp (Has.mono s) id

/-- frozen result -/
def tF (K : PySem.W.Frag) (f : FE) : TE := fun σ H Q => ∃ H₀ Hf₀ ρ Hf d, Rep K H₀ Hf₀ σ ρ H Hf ∧ f ρ = some d ∧
  ∀ v H' Hf', Rep K H₀ Hf₀ σ ρ H' Hf' → Same H H' → Same Hf Hf' → Has K Hf' d v → Q v H'
/-- readable result -/
def tR (K : PySem.W.Frag) (f : FE) : TE := fun σ H Q => ∃ H₀ Hf₀ ρ Hf d, Rep K H₀ Hf₀ σ ρ H Hf ∧ f ρ = some d ∧
  ∀ v H' Hf', Rep K H₀ Hf₀ σ ρ H' Hf' → Same H H' → Same Hf Hf' → HasR K Hf' σ ρ d v → Q v H'
/-- a new list, not frozen -/
def tN (K : PySem.W.Frag) (f : FA) : TE := fun σ H Q => ∃ H₀ Hf₀ ρ Hf ds, Rep K H₀ Hf₀ σ ρ H Hf ∧ f ρ = some ds ∧
  ∀ a xs H' Hf', Rep K H₀ Hf₀ σ ρ H' Hf' → Same H H' → Same Hf Hf' → HasL K Hf' ds xs → H' a = some (.lst xs) → Hf' a = none → H a = none → Q (.ref a) H'
def tT (K : PySem.W.Frag) (f : FT) : TT := fun σ H Q => ∃ H₀ Hf₀ ρ Hf b, Rep K H₀ Hf₀ σ ρ H Hf ∧ f ρ = some b ∧
  ∀ H' Hf', Rep K H₀ Hf₀ σ ρ H' Hf' → Same H H' → Same Hf Hf' → Q b H'
def tAF (K : PySem.W.Frag) (f : FA) : TA := fun σ H Q => ∃ H₀ Hf₀ ρ Hf ds, Rep K H₀ Hf₀ σ ρ H Hf ∧ f ρ = some ds ∧
  ∀ vs H' Hf', Rep K H₀ Hf₀ σ ρ H' Hf' → Same H H' → Same Hf Hf' → HasL K Hf' ds vs → Q vs H'
/-- readable arguments -/
def HasRL (K : PySem.W.Frag) (Hf : Hp) (σ : St) (ρ : Rho) : List D → List V → Prop := Paired (HasR K Hf σ ρ)
def tAR (K : PySem.W.Frag) (f : FA) : TA := fun σ H Q => ∃ H₀ Hf₀ ρ Hf ds, Rep K H₀ Hf₀ σ ρ H Hf ∧ f ρ = some ds ∧
  ∀ vs H' Hf', Rep K H₀ Hf₀ σ ρ H' Hf' → Same H H' → Same Hf Hf' → HasRL K Hf' σ ρ ds vs → Q vs H'
def EndO (K : PySem.W.Frag) (H₀ Hf₀ Hf : Hp) (D' : Ends) : Out → Prop
  | .nx ρ' => ∀ σ' H' Hf', Rep K H₀ Hf₀ σ' ρ' H' Hf' → Same Hf Hf' → D'.nx σ' H'
  | .bk ρ' => ∀ σ' H' Hf', Rep K H₀ Hf₀ σ' ρ' H' Hf' → Same Hf Hf' → D'.bk σ' H'
  | .ct ρ' => ∀ σ' H' Hf', Rep K H₀ Hf₀ σ' ρ' H' Hf' → Same Hf Hf' → D'.ct σ' H'
  | .rt d => ∀ v σ' ρ' H' Hf', Rep K H₀ Hf₀ σ' ρ' H' Hf' → Same Hf Hf' → Has K Hf' d v → D'.rt v H'
def tS (K : PySem.W.Frag) (F : FS) : TS := fun D' σ H => ∃ H₀ Hf₀ ρ Hf o, Rep K H₀ Hf₀ σ ρ H Hf ∧ F ρ = some o ∧ EndO K H₀ Hf₀ Hf D' o

def DE (X : Cx) (e : Expr) (f : FE) : Prop := PE X e (tF X.K f)
def DR (X : Cx) (e : Expr) (f : FE) : Prop := PE X e (tR X.K f)
def DN (X : Cx) (e : Expr) (f : FA) : Prop := PE X e (tN X.K f)
def DT (X : Cx) (e : Expr) (f : FT) : Prop := PT X e (tT X.K f)
def DW (X : Cx) (e : Expr) (f : FT) : Prop := PW X e (tT X.K f)
def DA (X : Cx) (es : List Expr) (f : FA) : Prop := PA X es (tAF X.K f)
def DAR (X : Cx) (es : List Expr) (f : FA) : Prop := PA X es (tAR X.K f)
def DS (X : Cx) (st : Stmt) (F : FS) : Prop := PS X st (tS X.K F)
def DSs (X : Cx) (sts : List Stmt) (F : FS) : Prop := PSs X sts (tS X.K F)

section
variable {X : Cx} {e a b c : Expr} {es : List Expr} {f g h : FE} {fa ga : FA} {ft gt : FT} {pos : Pos} {t t' : TE}
theorem pe_imp (h : PE X e t) (i : ∀ σ H Q, t' σ H Q → t σ H Q) : PE X e t' := fun pins s σ H Q I hw => h pins s σ H Q I (i _ _ _ hw)
theorem pt_imp {t t' : TT} (h : PT X e t) (i : ∀ σ H Q, t' σ H Q → t σ H Q) : PT X e t' := fun pins s σ H Q I hw => h pins s σ H Q I (i _ _ _ hw)
theorem pw_imp {t t' : TT} (h : PW X e t) (i : ∀ σ H Q, t' σ H Q → t σ H Q) : PW X e t' := fun wh pins s σ H Q I hw => h wh pins s σ H Q I (i _ _ _ hw)
theorem pa_imp {t t' : TA} (h : PA X es t) (i : ∀ σ H Q, t' σ H Q → t σ H Q) : PA X es t' := fun p pins s σ H Q I hw => h p pins s σ H Q I (i _ _ _ hw)
theorem ps_imp {st : Stmt} {t t' : TS} (h : PS X st t) (i : ∀ D σ H, t' D σ H → t D σ H) : PS X st t' := fun pins s σ H D I hw => h pins s σ H D I (i _ _ _ hw)
theorem pss_imp {sts : List Stmt} {t t' : TS} (h : PSs X sts t) (i : ∀ D σ H, t' D σ H → t D σ H) : PSs X sts t' := fun pins s σ H D I hw => h pins s σ H D I (i _ _ _ hw)

theorem DE.dr (he : DE X e f) : DR X e f := pe_imp he fun σ H Q ⟨H₀, Hf₀, ρ, Hf, d, R, q, k⟩ => ⟨H₀, Hf₀, ρ, Hf, d, R, q, fun v H' Hf' R' s1 s2 hv => k v H' Hf' R' s1 s2 (.inl hv)⟩
/-- a new list, frozen at once -/
def mapLst (fa : FA) : FE := fun ρ => (fa ρ).map D.lst
theorem DN.de (he : DN X e fa) : DE X e (mapLst fa) := pe_imp he fun σ H Q ⟨H₀, Hf₀, ρ, Hf, d, R, q, k⟩ => by
  unfold mapLst at q
  cases hq : fa ρ with
  | none => rw [hq] at q; cases q
  | some ds =>
    rw [hq] at q; cases q
    refine ⟨H₀, Hf₀, ρ, Hf, ds, R, hq, fun a xs H' Hf' R' s1 s2 hl ha hn hh => ?_⟩
    have sm : Same Hf' (upd Hf' a (.lst xs)) := same_upd hn
    have h0 : H₀ a = none := R.s0.free hh
    refine k (.ref a) H' (upd Hf' a (.lst xs)) ?_ s1 (s2.trans sm) (Has.lst_iff.mpr ⟨a, xs, rfl, SqL.of upd_same, hl.mono sm⟩)
    refine ⟨R'.s0, fun b u z => ?_, fun b u z => ?_, R'.f0.trans sm, R'.len, fun i d z => ?_, fun i sl z o => ?_, R'.inj⟩
    · by_cases hb : b = a
      · subst hb; rw [upd_same] at z; cases z; exact ha
      · rw [upd_ne hb] at z; exact R'.sf b u z
    · by_cases hb : b = a
      · subst hb; exact .inr (.inl h0)
      · rw [upd_ne hb] at z; exact R'.nf b u z
    · obtain ⟨v, p1, p2⟩ := R'.fr i d z
      exact ⟨v, p1, p2.mono sm⟩
    · obtain ⟨b, p1, p2, p3, p4⟩ := R.ow i sl z o
      obtain ⟨b', r1, r2, r3, r4⟩ := R'.ow i sl z o
      rw [p1] at r1; cases r1
      refine ⟨b, p1, r2.mono (fun u q => q) sm, ?_, r4⟩
      rw [upd_ne]
      · exact r3
      · rintro rfl
        obtain ⟨o', q'⟩ := p2.there o
        rw [q'] at hh; cases hh

def vF (i : Nat) : FE := fun ρ => match ρ[i]? with
  | some (.fr d) => some d
  | _ => none
def vR (i : Nat) : FE := fun ρ => match ρ[i]? with
  | some (.fr d) => some d
  | some (.ol ds) => some (.lst ds)
  | _ => none
theorem dv (i : Nat) {x : Str} (hN : X.N[i]? = some x := by rfl) (hv : Vis X.env.scope x := by first | exact Or.inl rfl | exact Or.inr (Or.inl rfl) | exact Or.inr (Or.inr rfl)) (hd : (x == ("__debug__" : Str)) = false := by decide)
    (hcd : (x == ("__classdict__" : Str)) = false := by decide) : DE X (.Name x pos) (vF i) :=
  pe_imp (pe_var hN hv hd hcd) fun σ H Q ⟨H₀, Hf₀, ρ, Hf, d, R, q, k⟩ => by
    unfold vF at q
    split at q
    · cases q
      rename_i e
      obtain ⟨v, e1, e2⟩ := R.fr i d e
      exact ⟨v, e1, k v H Hf R sameR sameR e2⟩
    · cases q
theorem dvr (i : Nat) {x : Str} (hN : X.N[i]? = some x := by rfl) (hv : Vis X.env.scope x := by first | exact Or.inl rfl | exact Or.inr (Or.inl rfl) | exact Or.inr (Or.inr rfl)) (hd : (x == ("__debug__" : Str)) = false := by decide)
    (hcd : (x == ("__classdict__" : Str)) = false := by decide) : DR X (.Name x pos) (vR i) :=
  pe_imp (pe_var hN hv hd hcd) fun σ H Q ⟨H₀, Hf₀, ρ, Hf, d, R, q, k⟩ => by
    unfold vR at q
    split at q
    · cases q
      rename_i e
      obtain ⟨v, e1, e2⟩ := R.fr i d e
      exact ⟨v, e1, k v H Hf R sameR sameR (.inl e2)⟩
    · cases q
      rename_i ds e
      obtain ⟨a, e1, e2, _⟩ := R.ow i _ e rfl
      exact ⟨.ref a, e1, k _ H Hf R sameR sameR (.inr ⟨i, ds, rfl, e, e1⟩)⟩
    · cases q
def cF (d : D) : FE := fun _ => some d
theorem d_int {i : Int} {j pos} : DE X (.Constant (.int i) j pos) (cF (.int i)) := pe_imp pe_int fun σ H Q ⟨H₀, Hf₀, ρ, Hf, d, R, q, k⟩ => by cases q; exact k _ _ _ R sameR sameR (Has.int_iff.mpr rfl)
theorem d_non {j pos} : DE X (.Constant .none j pos) (cF .non) := pe_imp pe_non fun σ H Q ⟨H₀, Hf₀, ρ, Hf, d, R, q, k⟩ => by cases q; exact k _ _ _ R sameR sameR (Has.non_iff.mpr rfl)
theorem d_str {x : Str} {j pos} : DE X (.Constant (.str x) j pos) (cF (.str x)) := pe_imp pe_str fun σ H Q ⟨H₀, Hf₀, ρ, Hf, d, R, q, k⟩ => by cases q; exact k _ _ _ R sameR sameR (Has.str_iff.mpr rfl)
/-- a scalar of the module's top -/
def scalV : D → Option V
  | .non => some .non
  | .bl b => some (.bl b)
  | .int i => some (.int i)
  | .str x => some (.str x)
  | _ => none
def bind2 (φ : D → D → Option D) (f g : FE) : FE := fun ρ => (f ρ).bind fun x => (g ρ).bind fun y => φ x y
/-- what a rule of two values must do -/
def OpD (X : Cx) (r : R2) (φ : D → D → Option D) : Prop :=
  ∀ (σ : St) (ρ : Rho) (H₀ Hf₀ H Hf : Hp) (x y : V) (dx dy d : D) (Q : VK), Rep X.K H₀ Hf₀ σ ρ H Hf → HasR X.K Hf σ ρ dx x → HasR X.K Hf σ ρ dy y → φ dx dy = some d →
    (∀ v H' Hf', Rep X.K H₀ Hf₀ σ ρ H' Hf' → Same H H' → Same Hf Hf' → Has X.K Hf' d v → Q v H') → r x y H Q
theorem tOp_of {r : R2} {φ : D → D → Option D} (hφ : OpD X r φ) (σ : St) (H : Hp) (Q : VK) (hh : tF X.K (bind2 φ f g) σ H Q) : tOp r (tR X.K f) (tR X.K g) σ H Q := by
  obtain ⟨H₀, Hf₀, ρ, Hf, d, R, q, k⟩ := hh
  unfold bind2 at q
  cases hf : f ρ with
  | none => rw [hf] at q; cases q
  | some dx =>
    cases hg : g ρ with
    | none => rw [hf, hg] at q; cases q
    | some dy =>
      rw [hf, hg] at q
      refine ⟨H₀, Hf₀, ρ, Hf, dx, R, hf, fun v H1 Hf1 R1 s1 t1 h1 => ⟨H₀, Hf₀, ρ, Hf1, dy, R1, hg, fun u H2 Hf2 R2 s2 t2 h2 => ?_⟩⟩
      exact hφ σ ρ H₀ Hf₀ H2 Hf2 v u dx dy d Q R2 (h1.mono t2) h2 q fun w' H3 Hf3 R3 s3 t3 h3 => k w' H3 Hf3 R3 ((s1.trans s2).trans s3) ((t1.trans t2).trans t3) h3
theorem d_op {op : Operator} {r : R2} {φ : D → D → Option D} (ho : OpR X (binaryOp op) r) (hφ : OpD X r φ) (ha : DR X a f) (hb : DR X b g) : DE X (.BinOp a op b pos) (bind2 φ f g) :=
  pe_imp (pe_op ho ha hb) (tOp_of hφ)
theorem d_cmp {op : CmpOp} {r : R2} {φ : D → D → Option D} (ho : OpR X (compareOp op) r) (hφ : OpD X r φ) (ha : DR X a f) (hb : DR X b g) (hm : behindInMarks op b = false) : DE X (.Compare a [op] [b] pos) (bind2 φ f g) :=
  pe_imp (pe_cmpR ho ha hb hm) (tOp_of hφ)
theorem d_ix0 {r : R2} {φ : D → D → Option D} (ho : IxR X r) (hφ : OpD X r φ) (ha : DR X a f) (hb : DR X b g) (hs : PlainIx b) : DE X (.Subscript a b pos) (bind2 φ f g) :=
  pe_imp (pe_ix ho ha hb hs) (tOp_of hφ)

section
variable {K : PySem.W.Frag} {H₀ Hf₀ : Hp} {σ : St} {ρ : Rho} {H Hf : Hp} {v : V}
theorem HasR.int {i : Int} (h : HasR K Hf σ ρ (.int i) v) : v = .int i := by
  rcases h with h | ⟨_, _, e, _⟩
  · exact Has.int_iff.mp h
  · cases e
theorem HasR.bl {i : Bool} (h : HasR K Hf σ ρ (.bl i) v) : v = .bl i := by
  rcases h with h | ⟨_, _, e, _⟩
  · exact Has.bl_iff.mp h
  · cases e
theorem HasR.str {i : Str} (h : HasR K Hf σ ρ (.str i) v) : v = .str i := by
  rcases h with h | ⟨_, _, e, _⟩
  · exact Has.str_iff.mp h
  · cases e
theorem HasR.non (h : HasR K Hf σ ρ .non v) : v = .non := by
  rcases h with h | ⟨_, _, e, _⟩
  · exact Has.non_iff.mp h
  · cases e
theorem HasR.tup {ds : List D} (h : HasR K Hf σ ρ (.tup ds) v) (R : Rep K H₀ Hf₀ σ ρ H Hf) : ∃ a xs, v = .ref a ∧ SqT K H a xs ∧ HasL K Hf ds xs := by
  rcases h with h | ⟨_, _, e, _⟩
  · obtain ⟨a, xs, e, q, l⟩ := Has.tup_iff.mp h
    exact ⟨a, xs, e, sameT R.sf q, l⟩
  · cases e
theorem HasR.lst {ds : List D} (h : HasR K Hf σ ρ (.lst ds) v) (R : Rep K H₀ Hf₀ σ ρ H Hf) : ∃ a xs, v = .ref a ∧ SqL K H a xs ∧ HasL K Hf ds xs := by
  rcases h with h | ⟨i, ds', e, e1, e2⟩
  · obtain ⟨a, xs, e, q, l⟩ := Has.lst_iff.mp h
    exact ⟨a, xs, e, R.sf.seq q, l⟩
  · cases e
    obtain ⟨a, p1, ⟨xs, p2, p3⟩, _⟩ := R.ow i _ e1 rfl
    rw [e2] at p1; cases p1
    exact ⟨a, xs, rfl, SqL.of p2, p3⟩
end

def iiD (φ : Int → Int → Option D) : D → D → Option D
  | .int i, .int j => φ i j
  | _, _ => none
theorem iiD_some {φ : Int → Int → Option D} {x y d : D} (h : iiD φ x y = some d) : ∃ i j, x = .int i ∧ y = .int j ∧ φ i j = some d := by
  cases x <;> cases y <;> first | cases h | exact ⟨_, _, rfl, rfl, h⟩
theorem has_scal {K : PySem.W.Frag} {H : Hp} {d : D} {v : V} (h : scalV d = some v) : Has K H d v := by
  cases d <;> cases h
  · exact Has.non_iff.mpr rfl
  · exact Has.bl_iff.mpr rfl
  · exact Has.int_iff.mpr rfl
  · exact Has.str_iff.mpr rfl
theorem opD_ii {C : Int → Int → Prop} {gv : Int → Int → V} {φ : Int → Int → Option D} (h : ∀ i j d, φ i j = some d → C i j ∧ scalV d = some (gv i j)) : OpD X (rI C gv) (iiD φ) := by
  intro σ ρ H₀ Hf₀ H Hf x y dx dy d Q R hx hy hφ k
  obtain ⟨i, j, rfl, rfl, hd⟩ := iiD_some hφ
  obtain ⟨c, s⟩ := h i j d hd
  exact ⟨i, j, hx.int, hy.int, c, k _ _ _ R sameR sameR (has_scal s)⟩
theorem opD_ii0 {gv : Int → Int → V} {φ : Int → Int → Option D} (h : ∀ i j d, φ i j = some d → scalV d = some (gv i j)) : OpD X (rI0 gv) (iiD φ) := by
  intro σ ρ H₀ Hf₀ H Hf x y dx dy d Q R hx hy hφ k
  obtain ⟨i, j, rfl, rfl, hd⟩ := iiD_some hφ
  exact ⟨i, j, hx.int, hy.int, k _ _ _ R sameR sameR (has_scal (h i j d hd))⟩
end
end FL

set_option Elab.async false
set_option linter.all false
set_option maxRecDepth 100000
set_option maxHeartbeats 4000000
namespace FL
open PySem PySem.Spec PyProof.Rows L2

def big : Nat := 2 ^ 8000
theorem bits_big {i : Int} (h : i.natAbs < big) : Builtin.Int.intBits i ≤ 8001 := by
  unfold Builtin.Int.intBits
  split
  · exact Nat.zero_le _
  · have : i.natAbs.log2 < 8000 := by
      rcases Nat.eq_zero_or_pos i.natAbs with h0 | hp
      · rw [h0]; decide
      · exact (Nat.log2_lt (Nat.ne_of_gt hp)).mpr h
    omega
/-- the product may be reckoned -/
def MulB (i j : Int) : Prop := i.natAbs < 2 ^ 64 ∨ j.natAbs < 2 ^ 64 ∨ (i.natAbs < big ∧ j.natAbs < big)
instance (i j : Int) : Decidable (MulB i j) := by unfold MulB; exact inferInstance
theorem MulB.ok {i j : Int} (h : MulB i j) : IntMulOk i j := by
  rcases h with h | h | ⟨h1, h2⟩
  · exact .of_left (intBits_le_64 (by omega) (by omega))
  · exact .of_right (intBits_le_64 (by omega) (by omega))
  · exact IntMulOk.of_le (bits_big h1) (bits_big h2) (by decide)
def DivB (j : Int) : Prop := 0 < j ∧ j < 2 ^ 64
instance (j : Int) : Decidable (DivB j) := by unfold DivB; exact inferInstance
def PowB (i j : Int) : Prop := 0 ≤ j ∧ j ≤ 1000 ∧ i.natAbs < big
instance (i j : Int) : Decidable (PowB i j) := by unfold PowB; exact inferInstance

section
variable {X : Cx} {e a b c : Expr} {es : List Expr} {f g h : FE} {fa ga : FA} {ft gt : FT} {pos : Pos} {t t' : TE}
theorem op_mulG : OpR X (binaryOp .Mult) (rI MulB fun i j => .int (i * j)) := opI fun _ _ _ _ _ _ _ hc q => mul_int q hc.ok
theorem op_fdivG : OpR X (binaryOp .FloorDiv) (rI (fun _ j => DivB j) fun i j => .int (i / j)) := opI fun i j _ _ _ _ _ hc q => by
  have h1 : (0 : Int) < j := hc.1
  have h2 : j < 2 ^ 64 := hc.2
  refine floordiv_int (by omega) (by rw [Int.fdiv_eq_ediv_of_nonneg i (by omega)]; exact q) (.inl (PyProof.noPylong_of_log2 ?_))
  have hn : j.natAbs < 2 ^ 64 := by omega
  have : j.natAbs.log2 < 64 := (Nat.log2_lt (by omega)).mpr hn
  omega
theorem op_powG : OpR X (binaryOp .Pow) (rI PowB fun i j => .int (i ^ j.toNat)) := opI fun i j _ _ _ _ _ hc q => by
  obtain ⟨h1, h2, h3⟩ := hc
  refine pow_int h1 ?_ q
  have hb := bits_big h3
  have : (Builtin.Int.intBits i : Int) * j ≤ 8001 * 1000 := Int.mul_le_mul (by omega) h2 h1 (by decide)
  exact Int.le_trans this (by decide)
def mulD : D → D → Option D := iiD fun i j => if MulB i j then some (.int (i * j)) else none
def subD : D → D → Option D := iiD fun i j => some (.int (i - j))
def modD : D → D → Option D := iiD fun i j => if 0 < j then some (.int (i % j)) else none
def fdivD : D → D → Option D := iiD fun i j => if DivB j then some (.int (i / j)) else none
def powD : D → D → Option D := iiD fun i j => if PowB i j then some (.int (i ^ j.toNat)) else none
theorem opD_mul : OpD X (rI MulB fun i j => .int (i * j)) mulD := opD_ii fun i j d q => by
  split at q
  · cases q; exact ⟨by assumption, rfl⟩
  · cases q
theorem opD_sub : OpD X (rI0 fun i j => .int (i - j)) subD := opD_ii0 fun i j d q => by cases q; rfl
theorem opD_mod : OpD X (rI (fun _ j => 0 < j) fun i j => .int (i % j)) modD := opD_ii fun i j d q => by
  split at q
  · cases q; exact ⟨by assumption, rfl⟩
  · cases q
theorem opD_fdiv : OpD X (rI (fun _ j => DivB j) fun i j => .int (i / j)) fdivD := opD_ii fun i j d q => by
  split at q
  · cases q; exact ⟨by assumption, rfl⟩
  · cases q
theorem opD_pow : OpD X (rI PowB fun i j => .int (i ^ j.toNat)) powD := opD_ii fun i j d q => by
  split at q
  · cases q; exact ⟨by assumption, rfl⟩
  · cases q
theorem d_sub (ha : DR X a f) (hb : DR X b g) : DE X (.BinOp a .Sub b pos) (bind2 subD f g) := d_op op_sub opD_sub ha hb
theorem d_mul (ha : DR X a f) (hb : DR X b g) : DE X (.BinOp a .Mult b pos) (bind2 mulD f g) := d_op op_mulG opD_mul ha hb
theorem d_mod (ha : DR X a f) (hb : DR X b g) : DE X (.BinOp a .Mod b pos) (bind2 modD f g) := d_op op_mod opD_mod ha hb
theorem d_fdiv (ha : DR X a f) (hb : DR X b g) : DE X (.BinOp a .FloorDiv b pos) (bind2 fdivD f g) := d_op op_fdivG opD_fdiv ha hb
theorem d_pow (ha : DR X a f) (hb : DR X b g) : DE X (.BinOp a .Pow b pos) (bind2 powD f g) := d_op op_powG opD_pow ha hb
def bind1 (φ : D → Option D) (f : FE) : FE := fun ρ => (f ρ).bind φ
def negD : D → Option D
  | .int i => some (.int (-i))
  | _ => none
theorem d_neg (ha : DR X a f) : DE X (.UnaryOp .USub a pos) (bind1 negD f) :=
  pe_imp (pe_un un_neg ha) fun σ H Q ⟨H₀, Hf₀, ρ, Hf, d, R, q, k⟩ => by
    unfold bind1 at q
    cases hf : f ρ with
    | none => rw [hf] at q; cases q
    | some x =>
      rw [hf] at q
      cases x <;> try cases q
      exact ⟨H₀, Hf₀, ρ, Hf, _, R, hf, fun v H1 Hf1 R1 s1 t1 h1 => ⟨_, h1.int, k _ _ _ R1 s1 t1 (Has.int_iff.mpr rfl)⟩⟩

def ltD : D → D → Option D := iiD fun i j => some (.bl (decide (i < j)))
def leD : D → D → Option D := iiD fun i j => some (.bl (decide (i ≤ j)))
def gtD : D → D → Option D := iiD fun i j => some (.bl (decide (j < i)))
def geD : D → D → Option D := iiD fun i j => some (.bl (decide (j ≤ i)))
theorem opD_lt : OpD X (rI0 fun i j => .bl (decide (i < j))) ltD := opD_ii0 fun i j d q => by cases q; rfl
theorem opD_le : OpD X (rI0 fun i j => .bl (decide (i ≤ j))) leD := opD_ii0 fun i j d q => by cases q; rfl
theorem opD_gt : OpD X (rI0 fun i j => .bl (decide (j < i))) gtD := opD_ii0 fun i j d q => by cases q; rfl
/-- is None -/
def isD (neg : Bool) : D → D → Option D := fun x y => match y with
  | .non => match x with
    | .non => some (.bl (!neg))
    | _ => some (.bl neg)
  | _ => none
def ixD : D → D → Option D
  | .tup ds, .int i => atI ds i
  | .lst ds, .int i => atI ds i
  | .str z, .int i => if z.length ≤ sizeLine then (atI z.cps.toList i).map fun c => .str ⟨#[c]⟩ else none
  | _, _ => none
theorem HasL.atI {K : PySem.W.Frag} {H : Hp} {ds : List D} {xs : List V} {i : Int} {d : D} (h : HasL K H ds xs) (e : L2.atI ds i = some d) : ∃ v, L2.atI xs i = some v ∧ Has K H d v := by
  unfold L2.atI at e ⊢
  rw [h.length]
  cases hj : ixN ds.length i with
  | none => rw [hj] at e; cases e
  | some j =>
    rw [hj] at e
    exact h.get e
theorem opD_ix : OpD X (rIx X.K) ixD := by
  intro σ ρ H₀ Hf₀ H Hf x y dx dy d Q R hx hy hφ k
  unfold ixD at hφ
  split at hφ
  · obtain ⟨a, xs, rfl, qa, la⟩ := hx.tup R
    obtain ⟨v, e1, e2⟩ := la.atI hφ
    exact .inr (.inl ⟨a, xs, _, v, rfl, hy.int, qa, e1, k _ _ _ R sameR sameR e2⟩)
  · obtain ⟨a, xs, rfl, qa, la⟩ := hx.lst R
    obtain ⟨v, e1, e2⟩ := la.atI hφ
    exact .inl ⟨a, xs, _, v, rfl, hy.int, qa, e1, k _ _ _ R sameR sameR e2⟩
  · split at hφ
    · rename_i z i hz
      cases e : atI z.cps.toList i with
      | none => rw [e] at hφ; cases hφ
      | some c =>
        rw [e] at hφ
        cases hφ
        exact .inr (.inr ⟨z, i, c, hx.str, hy.int, hz, e, k _ _ _ R sameR sameR (Has.str_iff.mpr rfl)⟩)
    · cases hφ
  · cases hφ
theorem d_ix (ha : DR X a f) (hb : DR X b g) (hs : PlainIx b := by intro _ _; rfl) : DE X (.Subscript a b pos) (bind2 ixD f g) := d_ix0 ix_seq opD_ix ha hb hs

def nilA : FA := fun _ => some []
def consA (f : FE) (g : FA) : FA := fun ρ => (f ρ).bind fun x => (g ρ).bind fun xs => some (x :: xs)
theorem consA_some {f : FE} {g : FA} {ρ : Rho} {l : List D} (h : consA f g ρ = some l) : ∃ x xs, f ρ = some x ∧ g ρ = some xs ∧ l = x :: xs := by
  unfold consA at h
  cases hf : f ρ with
  | none => rw [hf] at h; cases h
  | some x =>
    cases hg : g ρ with
    | none => rw [hf, hg] at h; cases h
    | some xs => rw [hf, hg] at h; cases h; exact ⟨x, xs, rfl, rfl, rfl⟩
theorem da_nil : DA X [] nilA := pa_imp pa_nil fun σ H Q ⟨H₀, Hf₀, ρ, Hf, d, R, q, k⟩ => by cases q; exact k _ _ _ R sameR sameR .nil
theorem da_cons (ha : DE X e f) (hr : DA X es fa) (hs : starEach (e :: es) X.env = (false, eval e X.env) :: starEach es X.env := by rfl) : DA X (e :: es) (consA f fa) :=
  pa_imp (pa_cons ha hr hs) fun σ H Q ⟨H₀, Hf₀, ρ, Hf, d, R, q, k⟩ => by
    obtain ⟨x, xs, e1, e2, rfl⟩ := consA_some q
    exact ⟨H₀, Hf₀, ρ, Hf, x, R, e1, fun v H1 Hf1 R1 s1 t1 h1 => ⟨H₀, Hf₀, ρ, Hf1, xs, R1, e2, fun vs H2 Hf2 R2 s2 t2 h2 => k _ _ _ R2 (s1.trans s2) (t1.trans t2) (.cons (h1.mono t2) h2)⟩⟩
theorem dar_nil : DAR X [] nilA := pa_imp pa_nil fun σ H Q ⟨H₀, Hf₀, ρ, Hf, d, R, q, k⟩ => by cases q; exact k _ _ _ R sameR sameR .nil
theorem dar_cons (ha : DR X e f) (hr : DAR X es fa) (hs : starEach (e :: es) X.env = (false, eval e X.env) :: starEach es X.env := by rfl) : DAR X (e :: es) (consA f fa) :=
  pa_imp (pa_cons ha hr hs) fun σ H Q ⟨H₀, Hf₀, ρ, Hf, d, R, q, k⟩ => by
    obtain ⟨x, xs, e1, e2, rfl⟩ := consA_some q
    exact ⟨H₀, Hf₀, ρ, Hf, x, R, e1, fun v H1 Hf1 R1 s1 t1 h1 => ⟨H₀, Hf₀, ρ, Hf1, xs, R1, e2, fun vs H2 Hf2 R2 s2 t2 h2 => k _ _ _ R2 (s1.trans s2) (t1.trans t2) (.cons (h1.mono t2) h2)⟩⟩
def tupF (g : FA) : FE := fun ρ => (g ρ).bind fun xs => if xs.length ≤ sizeLine then some (.tup xs) else none
theorem d_tup {x1} (h : DA X es fa) : DE X (.Tuple es x1 pos) (tupF fa) :=
  pe_imp (pe_tup h) fun σ H Q ⟨H₀, Hf₀, ρ, Hf, d, R, q, k⟩ => by
    unfold tupF at q
    cases hg : fa ρ with
    | none => rw [hg] at q; cases q
    | some xs =>
      rw [hg] at q
      simp only [Option.bind_some] at q
      split at q
      · cases q
        rename_i hl
        refine ⟨H₀, Hf₀, ρ, Hf, xs, R, hg, fun vs H1 Hf1 R1 s1 t1 h1 => ⟨by rw [h1.length]; exact hl, fun p hp => ?_⟩⟩
        have sm := same_upd (o := .tup vs) (R1.sf.free hp)
        exact k _ _ _ (R1.lay hp) (s1.trans (same_upd hp)) (t1.trans sm) (Has.tup_iff.mpr ⟨p, vs, rfl, SqT.of upd_same, h1.mono sm⟩)
      · cases q
def lstF (g : FA) : FA := fun ρ => (g ρ).bind fun xs => if xs.length ≤ sizeLine then some xs else none
theorem dn_lst (h : DA X es fa) : DN X (.List es pos) (lstF fa) :=
  pe_imp (pe_lst h) fun σ H Q ⟨H₀, Hf₀, ρ, Hf, d, R, q, k⟩ => by
    unfold lstF at q
    cases hg : fa ρ with
    | none => rw [hg] at q; cases q
    | some xs =>
      rw [hg] at q
      simp only [Option.bind_some] at q
      split at q
      · cases q
        rename_i hl
        refine ⟨H₀, Hf₀, ρ, Hf, _, R, hg, fun vs H1 Hf1 R1 s1 t1 h1 => ⟨by rw [h1.length]; exact hl, fun p hp => ?_⟩⟩
        exact k _ _ _ _ (R1.layN hp) (s1.trans (same_upd hp)) t1 h1 upd_same (R1.sf.free hp) (s1.free hp)
      · cases q

def blF (f : FE) : FT := fun ρ => (f ρ).bind fun | .bl b => some b | _ => none
theorem blF_some {f : FE} {ρ : Rho} {b : Bool} (h : blF f ρ = some b) : f ρ = some (.bl b) := by
  unfold blF at h
  cases hf : f ρ with
  | none => rw [hf] at h; cases h
  | some x => rw [hf] at h; cases x <;> cases h; rfl
theorem pt_of_cmp {op : CmpOp} {r : R2} {φ : D → D → Option D} (ho : OpR X (compareOp op) r) (hφ : OpD X r φ) (ha : DR X a f) (hb : DR X b g) (hm : behindInMarks op b = false) : DT X (.Compare a [op] [b] pos) (blF (bind2 φ f g)) :=
  pt_imp (pt_cmpR ho ha hb hm) fun σ H Q ⟨H₀, Hf₀, ρ, Hf, d, R, q, k⟩ => tOp_of hφ σ H _ ⟨H₀, Hf₀, ρ, Hf, _, R, blF_some q, fun v H1 Hf1 R1 s1 t1 h1 => ⟨d, Has.bl_iff.mp h1, k _ _ R1 s1 t1⟩⟩
theorem dt_lt (ha : DR X a f) (hb : DR X b g) : DT X (.Compare a [.Lt] [b] pos) (blF (bind2 ltD f g)) := pt_of_cmp op_lt opD_lt ha hb (nomark _)
theorem dt_le (ha : DR X a f) (hb : DR X b g) : DT X (.Compare a [.LtE] [b] pos) (blF (bind2 leD f g)) := pt_of_cmp op_le opD_le ha hb (nomark _)
theorem dt_gt (ha : DR X a f) (hb : DR X b g) : DT X (.Compare a [.Gt] [b] pos) (blF (bind2 gtD f g)) := pt_of_cmp op_gt opD_gt ha hb (nomark _)
def andT (f g : FT) : FT := fun ρ => (f ρ).bind fun b => if b = true then g ρ else some false
def orT (f g : FT) : FT := fun ρ => (f ρ).bind fun b => if b = true then some true else g ρ
def notT (f : FT) : FT := fun ρ => (f ρ).bind fun b => some (!b)
variable {rest : List Expr}
theorem bindT_some {α : Type} {f : Rho → Option Bool} {k : Bool → Option α} {ρ : Rho} {r : α} (h : (f ρ).bind k = some r) : ∃ b, f ρ = some b ∧ k b = some r := by
  cases hf : f ρ with
  | none => rw [hf] at h; cases h
  | some x => rw [hf] at h; exact ⟨x, rfl, h⟩
theorem dw_and1 (ha : DT X a ft) : DW X (.BoolOp .And [a] pos) ft := pw_and1 ha
theorem dw_or1 (ha : DT X a ft) : DW X (.BoolOp .Or [a] pos) ft := pw_or1 ha
theorem dw_and (ha : DT X a ft) (hb : DW X (.BoolOp .And (b :: rest) pos) gt) : DW X (.BoolOp .And (a :: b :: rest) pos) (andT ft gt) :=
  pw_imp (pw_and ha hb) fun σ H Q ⟨H₀, Hf₀, ρ, Hf, d, R, q, k⟩ => by
    obtain ⟨b, e1, e2⟩ := bindT_some q
    refine ⟨H₀, Hf₀, ρ, Hf, b, R, e1, fun H1 Hf1 R1 s1 t1 => ?_⟩
    cases b with
    | true => exact iteT ⟨H₀, Hf₀, ρ, Hf1, d, R1, e2, fun H2 Hf2 R2 s2 t2 => k _ _ R2 (s1.trans s2) (t1.trans t2)⟩
    | false => cases e2; exact iteF (k _ _ R1 s1 t1)
theorem dw_or (ha : DT X a ft) (hb : DW X (.BoolOp .Or (b :: rest) pos) gt) : DW X (.BoolOp .Or (a :: b :: rest) pos) (orT ft gt) :=
  pw_imp (pw_or ha hb) fun σ H Q ⟨H₀, Hf₀, ρ, Hf, d, R, q, k⟩ => by
    obtain ⟨b, e1, e2⟩ := bindT_some q
    refine ⟨H₀, Hf₀, ρ, Hf, b, R, e1, fun H1 Hf1 R1 s1 t1 => ?_⟩
    cases b with
    | false => exact iteF ⟨H₀, Hf₀, ρ, Hf1, d, R1, e2, fun H2 Hf2 R2 s2 t2 => k _ _ R2 (s1.trans s2) (t1.trans t2)⟩
    | true => cases e2; exact iteT (k _ _ R1 s1 t1)
theorem DW.dt (h : DW X e ft) : DT X e ft := PW.pt h
/-- as values (bools) -/
def andV (f g : FE) : FE := fun ρ => (f ρ).bind fun | .bl b => (if b = true then g ρ else some (.bl false)) | _ => none
def orV (f g : FE) : FE := fun ρ => (f ρ).bind fun | .bl b => (if b = true then some (.bl true) else g ρ) | _ => none
def notV (f : FE) : FE := fun ρ => (f ρ).bind fun | .bl b => some (.bl (!b)) | _ => none
theorem bindV_some {α : Type} {f : FE} {k : D → Option α} {ρ : Rho} {r : α} (h : (f ρ).bind k = some r) : ∃ b, f ρ = some b ∧ k b = some r := by
  cases hf : f ρ with
  | none => rw [hf] at h; cases h
  | some x => rw [hf] at h; exact ⟨x, rfl, h⟩
theorem d_one {op} (h : DE X a f) : DE X (.BoolOp op [a] pos) f := pe_one h
theorem d_and (ha : DE X a f) (hb : DE X (.BoolOp .And (b :: rest) pos) g) : DE X (.BoolOp .And (a :: b :: rest) pos) (andV f g) :=
  pe_imp (pe_and ha hb) fun σ H Q ⟨H₀, Hf₀, ρ, Hf, d, R, q, k⟩ => by
    obtain ⟨x, e1, e2⟩ := bindV_some q
    cases x <;> try cases e2
    rename_i b
    refine ⟨H₀, Hf₀, ρ, Hf, _, R, e1, fun v H1 Hf1 R1 s1 t1 h1 => ⟨b, Has.bl_iff.mp h1, ?_⟩⟩
    cases b with
    | true => exact iteT ⟨H₀, Hf₀, ρ, Hf1, d, R1, e2, fun v H2 Hf2 R2 s2 t2 h2 => k _ _ _ R2 (s1.trans s2) (t1.trans t2) h2⟩
    | false => cases e2; exact iteF (k _ _ _ R1 s1 t1 (Has.bl_iff.mpr rfl))
def ifF (c : FT) (f g : FE) : FE := fun ρ => (c ρ).bind fun b => if b = true then f ρ else g ρ
theorem d_ifExp (hc : DT X c ft) (ha : DE X a f) (hb : DE X b g) : DE X (.IfExp c a b pos) (ifF ft f g) :=
  pe_imp (pe_ifExp hc ha hb) fun σ H Q ⟨H₀, Hf₀, ρ, Hf, d, R, q, k⟩ => by
    obtain ⟨x, e1, e2⟩ := bindT_some q
    refine ⟨H₀, Hf₀, ρ, Hf, x, R, e1, fun H1 Hf1 R1 s1 t1 => ?_⟩
    cases x with
    | true => exact iteT ⟨H₀, Hf₀, ρ, Hf1, d, R1, e2, fun v H2 Hf2 R2 s2 t2 h2 => k _ _ _ R2 (s1.trans s2) (t1.trans t2) h2⟩
    | false => exact iteF ⟨H₀, Hf₀, ρ, Hf1, d, R1, e2, fun v H2 Hf2 R2 s2 t2 h2 => k _ _ _ R2 (s1.trans s2) (t1.trans t2) h2⟩
end
end FL

set_option Elab.async false
set_option linter.all false
set_option maxRecDepth 100000
set_option maxHeartbeats 4000000
namespace FL
open PySem PySem.Spec PyProof.Rows L2

mutual
def eqD : D → D → Bool
  | .non, .non => true
  | .bl a, .bl b => a == b
  | .bl a, .int b => (if a then 1 else 0) == b
  | .int a, .bl b => a == (if b then 1 else 0)
  | .int a, .int b => a == b
  | .str a, .str b => a == b
  | .tup a, .tup b => eqDL a b
  | .lst a, .lst b => eqDL a b
  | _, _ => false
def eqDL : List D → List D → Bool
  | [], [] => true
  | x :: xs, y :: ys => eqD x y && eqDL xs ys
  | _, _ => false
end
mutual
def dep : D → Nat
  | .tup a => depL a + 1
  | .lst a => depL a + 1
  | _ => 0
def depL : List D → Nat
  | [] => 0
  | x :: xs => max (dep x) (depL xs)
end
mutual
theorem eqD_refl : ∀ d : D, eqD d d = true
  | .non => by simp [eqD]
  | .bl b => by simp [eqD]
  | .int i => by simp [eqD]
  | .str x => by simp [eqD]
  | .tup ds => by unfold eqD; exact eqDL_refl ds
  | .lst ds => by unfold eqD; exact eqDL_refl ds
theorem eqDL_refl : ∀ ds : List D, eqDL ds ds = true
  | [] => by simp [eqDL]
  | d :: ds => by unfold eqDL; rw [eqD_refl d, eqDL_refl ds]; rfl
end
theorem eqDL_eq : ∀ (xs ys : List D), eqDL xs ys = ((List.range (min xs.length ys.length)).all (fun j => eqD (xs.getD j .non) (ys.getD j .non)) && xs.length == ys.length)
  | [], [] => by simp [eqDL]
  | [], y :: ys => by simp [eqDL]
  | x :: xs, [] => by simp [eqDL]
  | x :: xs, y :: ys => by
    unfold eqDL
    rw [eqDL_eq xs ys]
    have e : min (x :: xs).length (y :: ys).length = min xs.length ys.length + 1 := by simp only [List.length_cons]; omega
    rw [e, List.range_succ_eq_map, List.all_cons, List.all_map]
    simp [Function.comp_def, Bool.and_assoc]

section
variable {X : Cx} {pins : List (Addr × Obj)} {σ : St} {H Hf : Hp} {s : Shared}
mutual
/-- one value, one datum -/
theorem Has.inj (I : Inv X pins σ H s) : ∀ {d d' : D} {v : V}, Has X.K H d v → Has X.K H d' v → d = d'
  | .non, d', v, h, h' => by
    rw [Has.non_iff] at h; subst h
    cases d' with
    | non => rfl
    | bl b => cases Has.bl_iff.mp h'
    | int b => cases Has.int_iff.mp h'
    | str b => cases Has.str_iff.mp h'
    | tup b => obtain ⟨_, _, e, _⟩ := Has.tup_iff.mp h'; cases e
    | lst b => obtain ⟨_, _, e, _⟩ := Has.lst_iff.mp h'; cases e
  | .bl x, d', v, h, h' => by
    rw [Has.bl_iff] at h; subst h
    cases d' with
    | non => cases Has.non_iff.mp h'
    | bl b => cases Has.bl_iff.mp h'; rfl
    | int b => cases Has.int_iff.mp h'
    | str b => cases Has.str_iff.mp h'
    | tup b => obtain ⟨_, _, e, _⟩ := Has.tup_iff.mp h'; cases e
    | lst b => obtain ⟨_, _, e, _⟩ := Has.lst_iff.mp h'; cases e
  | .int x, d', v, h, h' => by
    rw [Has.int_iff] at h; subst h
    cases d' with
    | non => cases Has.non_iff.mp h'
    | bl b => cases Has.bl_iff.mp h'
    | int b => cases Has.int_iff.mp h'; rfl
    | str b => cases Has.str_iff.mp h'
    | tup b => obtain ⟨_, _, e, _⟩ := Has.tup_iff.mp h'; cases e
    | lst b => obtain ⟨_, _, e, _⟩ := Has.lst_iff.mp h'; cases e
  | .str x, d', v, h, h' => by
    rw [Has.str_iff] at h; subst h
    cases d' with
    | non => cases Has.non_iff.mp h'
    | bl b => cases Has.bl_iff.mp h'
    | int b => cases Has.int_iff.mp h'
    | str b => cases Has.str_iff.mp h'; rfl
    | tup b => obtain ⟨_, _, e, _⟩ := Has.tup_iff.mp h'; cases e
    | lst b => obtain ⟨_, _, e, _⟩ := Has.lst_iff.mp h'; cases e
  | .tup x, d', v, h, h' => by
    obtain ⟨a, xs, rfl, qa, la⟩ := Has.tup_iff.mp h
    cases d' with
    | non => cases Has.non_iff.mp h'
    | bl b => cases Has.bl_iff.mp h'
    | int b => cases Has.int_iff.mp h'
    | str b => cases Has.str_iff.mp h'
    | tup b =>
      obtain ⟨a', ys, e, qb, lb⟩ := Has.tup_iff.mp h'
      cases e
      cases I.tuple_inj qa qb
      rw [HasL.inj I la lb]
    | lst b =>
      obtain ⟨a', ys, e, qb, lb⟩ := Has.lst_iff.mp h'
      cases e
      obtain ⟨its, _, p1, _⟩ := I.tuple qa
      obtain ⟨its', _, p2, _⟩ := I.list qb
      exact absurd rfl (SeqAt.ne_of_list_tuple p2.isList p1)
  | .lst x, d', v, h, h' => by
    obtain ⟨a, xs, rfl, qa, la⟩ := Has.lst_iff.mp h
    cases d' with
    | non => cases Has.non_iff.mp h'
    | bl b => cases Has.bl_iff.mp h'
    | int b => cases Has.int_iff.mp h'
    | str b => cases Has.str_iff.mp h'
    | lst b =>
      obtain ⟨a', ys, e, qb, lb⟩ := Has.lst_iff.mp h'
      cases e
      cases I.list_inj qa qb
      rw [HasL.inj I la lb]
    | tup b =>
      obtain ⟨a', ys, e, qb, lb⟩ := Has.tup_iff.mp h'
      cases e
      obtain ⟨its, _, p1, _⟩ := I.tuple qb
      obtain ⟨its', _, p2, _⟩ := I.list qa
      exact absurd rfl (SeqAt.ne_of_list_tuple p2.isList p1)
theorem HasL.inj (I : Inv X pins σ H s) : ∀ {ds ds' : List D} {xs : List V}, HasL X.K H ds xs → HasL X.K H ds' xs → ds = ds'
  | [], ds', xs, h, h' => by
    rw [HasL.nil_iff] at h; subst h
    cases ds' with
    | nil => rfl
    | cons d r => obtain ⟨_, _, e, _⟩ := HasL.cons_iff.mp h'; cases e
  | d :: ds, ds', xs, h, h' => by
    obtain ⟨x, r, rfl, h1, h2⟩ := HasL.cons_iff.mp h
    cases ds' with
    | nil => rw [HasL.nil_iff] at h'; cases h'
    | cons d' r' =>
      obtain ⟨x', r'', e, h1', h2'⟩ := HasL.cons_iff.mp h'
      cases e
      rw [Has.inj I h1 h1', HasL.inj I h2 h2']
end

open SeqAt in
mutual
theorem eqAt_of (I : Inv X pins σ H s) : ∀ (d : D) (A : Around) (d' : D) (v v' : V) (u u' : Value), Has X.K H d v → Has X.K H d' v' → RelV v u → RelV v' u' → A.units + dep d < cLine → EqAt A s u u' (eqD d d')
  | .non, A, d', v, v', u, u', h, h', r, r', hu => by
    have hu : A.units < cLine := by omega
    rw [Has.non_iff] at h; subst h
    cases r
    cases d' with
    | non => rw [Has.non_iff] at h'; subst h'; cases r'; exact EqAt.same _
    | bl b => rw [Has.bl_iff] at h'; subst h'; cases r'; exact EqAt.none_bool _
    | int b => rw [Has.int_iff] at h'; subst h'; obtain ⟨t, rfl⟩ := r'; exact EqAt.none_int _ _
    | str b => rw [Has.str_iff] at h'; subst h'; obtain ⟨t, rfl⟩ := r'; exact EqAt.none_str _ _
    | tup b => obtain ⟨a, xs, rfl, q, _⟩ := Has.tup_iff.mp h'; cases r'; obtain ⟨its, _, p, _⟩ := I.tuple q; exact EqAt.none_tuple p hu
    | lst b => obtain ⟨a, xs, rfl, q, _⟩ := Has.lst_iff.mp h'; cases r'; obtain ⟨its, _, p, _⟩ := I.list q; exact EqAt.none_list p.isList hu
  | .bl x, A, d', v, v', u, u', h, h', r, r', hu => by
    have hu : A.units < cLine := by omega
    rw [Has.bl_iff] at h; subst h
    cases r
    cases d' with
    | non => rw [Has.non_iff] at h'; subst h'; cases r'; exact EqAt.bool_none _
    | bl b => rw [Has.bl_iff] at h'; subst h'; cases r'; exact EqAt.bool_bool _ _
    | int b => rw [Has.int_iff] at h'; subst h'; obtain ⟨t, rfl⟩ := r'; exact EqAt.bool_int _ _ _
    | str b => rw [Has.str_iff] at h'; subst h'; obtain ⟨t, rfl⟩ := r'; exact EqAt.bool_str _ _ _
    | tup b => obtain ⟨a, xs, rfl, q, _⟩ := Has.tup_iff.mp h'; cases r'; obtain ⟨its, _, p, _⟩ := I.tuple q; exact EqAt.bool_tuple _ p hu
    | lst b => obtain ⟨a, xs, rfl, q, _⟩ := Has.lst_iff.mp h'; cases r'; obtain ⟨its, _, p, _⟩ := I.list q; exact EqAt.bool_list _ p.isList hu
  | .int x, A, d', v, v', u, u', h, h', r, r', hu => by
    have hu : A.units < cLine := by omega
    rw [Has.int_iff] at h; subst h
    obtain ⟨t, rfl⟩ := r
    cases d' with
    | non => rw [Has.non_iff] at h'; subst h'; cases r'; exact EqAt.int_none _ _
    | bl b => rw [Has.bl_iff] at h'; subst h'; cases r'; exact EqAt.int_bool _ _ _
    | int b => rw [Has.int_iff] at h'; subst h'; obtain ⟨t, rfl⟩ := r'; exact EqAt.int_int _ _ _ _
    | str b => rw [Has.str_iff] at h'; subst h'; obtain ⟨t, rfl⟩ := r'; exact EqAt.int_str _ _ _ _
    | tup b => obtain ⟨a, xs, rfl, q, _⟩ := Has.tup_iff.mp h'; cases r'; obtain ⟨its, _, p, _⟩ := I.tuple q; exact EqAt.int_tuple _ _ p hu
    | lst b => obtain ⟨a, xs, rfl, q, _⟩ := Has.lst_iff.mp h'; cases r'; obtain ⟨its, _, p, _⟩ := I.list q; exact EqAt.int_list _ _ p.isList hu
  | .str x, A, d', v, v', u, u', h, h', r, r', hu => by
    have hu : A.units < cLine := by omega
    rw [Has.str_iff] at h; subst h
    obtain ⟨t, rfl⟩ := r
    cases d' with
    | non => rw [Has.non_iff] at h'; subst h'; cases r'; exact EqAt.str_none _ _
    | bl b => rw [Has.bl_iff] at h'; subst h'; cases r'; exact EqAt.str_bool _ _ _
    | int b => rw [Has.int_iff] at h'; subst h'; obtain ⟨t, rfl⟩ := r'; exact EqAt.str_int _ _ _ _
    | str b => rw [Has.str_iff] at h'; subst h'; obtain ⟨t, rfl⟩ := r'; exact EqAt.str_str _ _ _ _
    | tup b => obtain ⟨a, xs, rfl, q, _⟩ := Has.tup_iff.mp h'; cases r'; obtain ⟨its, _, p, _⟩ := I.tuple q; exact EqAt.str_tuple _ _ p hu
    | lst b => obtain ⟨a, xs, rfl, q, _⟩ := Has.lst_iff.mp h'; cases r'; obtain ⟨its, _, p, _⟩ := I.list q; exact EqAt.str_list _ _ p.isList hu
  | .tup x, A, d', v, v', u, u', h, h', r, r', hu => by
    have hu0 : A.units < cLine := by omega
    obtain ⟨a, xs, rfl, q, l⟩ := Has.tup_iff.mp h
    cases r
    obtain ⟨its, rv, p, _⟩ := I.tuple q
    cases d' with
    | non => rw [Has.non_iff] at h'; subst h'; cases r'; exact EqAt.tuple_none p hu0
    | bl b => rw [Has.bl_iff] at h'; subst h'; cases r'; exact EqAt.tuple_bool _ p hu0
    | int b => rw [Has.int_iff] at h'; subst h'; obtain ⟨t, rfl⟩ := r'; exact EqAt.tuple_int _ _ p hu0
    | str b => rw [Has.str_iff] at h'; subst h'; obtain ⟨t, rfl⟩ := r'; exact EqAt.tuple_str _ _ p hu0
    | tup y =>
      obtain ⟨b, ys, rfl, q', l'⟩ := Has.tup_iff.mp h'
      cases r'
      obtain ⟨its', rv', p', _⟩ := I.tuple q'
      by_cases hab : a = b
      · subst hab
        cases Has.inj I h h'
        rw [eqD_refl]
        exact EqAt.same _
      · refine EqAt.of_refs hab ?_
        have e := RcAt.tuples (A := A) (e := fun j => eqD (x.getD j .non) (y.getD j .non)) p p' hu0 (fun j h1 h2 => eqAtL_of I x A.in1 y xs ys its its' l l' rv rv' (by show A.units + 1 + _ < cLine; unfold dep at hu; omega) j (by simpa using h1) (by simpa using h2))
        unfold eqD
        rw [eqDL_eq, ← l.length, ← l'.length, rv.length, rv'.length]
        simpa using e
    | lst y => obtain ⟨b, ys, rfl, q', l'⟩ := Has.lst_iff.mp h'; cases r'; obtain ⟨its', _, p', _⟩ := I.list q'; exact EqAt.tuple_list p p'.isList hu0
  | .lst x, A, d', v, v', u, u', h, h', r, r', hu => by
    have hu0 : A.units < cLine := by omega
    obtain ⟨a, xs, rfl, q, l⟩ := Has.lst_iff.mp h
    cases r
    obtain ⟨its, rv, p, _⟩ := I.list q
    cases d' with
    | non => rw [Has.non_iff] at h'; subst h'; cases r'; exact EqAt.list_none p.isList hu0
    | bl b => rw [Has.bl_iff] at h'; subst h'; cases r'; exact EqAt.list_bool _ p.isList hu0
    | int b => rw [Has.int_iff] at h'; subst h'; obtain ⟨t, rfl⟩ := r'; exact EqAt.list_int _ _ p.isList hu0
    | str b => rw [Has.str_iff] at h'; subst h'; obtain ⟨t, rfl⟩ := r'; exact EqAt.list_str _ _ p.isList hu0
    | lst y =>
      obtain ⟨b, ys, rfl, q', l'⟩ := Has.lst_iff.mp h'
      cases r'
      obtain ⟨its', rv', p', _⟩ := I.list q'
      by_cases hab : a = b
      · subst hab
        cases Has.inj I h h'
        rw [eqD_refl]
        exact EqAt.same _
      · refine EqAt.of_refs hab ?_
        unfold eqD
        rw [eqDL_eq, ← l.length, ← l'.length, rv.length, rv'.length]
        by_cases hl : its.length = its'.length
        · have e := RcAt.lists (A := A) (e := fun j => eqD (x.getD j .non) (y.getD j .non)) p.isList p'.isList (by simpa using hl) hu0 (fun j h1 h2 => eqAtL_of I x A.in1 y xs ys its its' l l' rv rv' (by show A.units + 1 + _ < cLine; unfold dep at hu; omega) j (by simpa using h1) (by simpa using h2))
          rw [← hl, Nat.min_self]
          simpa using e
        · have e := RcAt.lists_lengths (A := A) p.isList p'.isList (by simpa using hl) hu0
          have : (its.length == its'.length) = false := by simpa using hl
          rw [this, Bool.and_false]
          exact e
    | tup y => obtain ⟨b, ys, rfl, q', l'⟩ := Has.tup_iff.mp h'; cases r'; obtain ⟨its', _, p', _⟩ := I.tuple q'; exact EqAt.list_tuple p.isList p' hu0
theorem eqAtL_of (I : Inv X pins σ H s) : ∀ (ds : List D) (A : Around) (ds' : List D) (xs ys : List V) (us us' : List Value), HasL X.K H ds xs → HasL X.K H ds' ys → Vals xs us → Vals ys us' → A.units + depL ds < cLine →
    ∀ (j : Nat) (h1 : j < us.length) (h2 : j < us'.length), EqAt A s us[j] us'[j] (eqD (ds.getD j .non) (ds'.getD j .non))
  | [], A, ds', xs, ys, us, us', l, l', r, r', hu, j, h1, h2 => by
    rw [HasL.nil_iff] at l; subst l
    cases r
    simp at h1
  | d :: ds, A, ds', xs, ys, us, us', l, l', r, r', hu, j, h1, h2 => by
    obtain ⟨x, xr, rfl, hx, hr⟩ := HasL.cons_iff.mp l
    cases ds' with
    | nil =>
      rw [HasL.nil_iff] at l'; subst l'
      cases r'
      simp at h2
    | cons d' ds' =>
      obtain ⟨y, yr, rfl, hy, hyr⟩ := HasL.cons_iff.mp l'
      cases r with
      | cons r rr =>
        cases r' with
        | cons r' rr' =>
          unfold depL at hu
          cases j with
          | zero => exact eqAt_of I d A d' _ _ _ _ hx hy r r' (by have := Nat.le_max_left (dep d) (depL ds); omega)
          | succ j => exact eqAtL_of I ds A ds' _ _ _ _ hr hyr rr rr' (by have := Nat.le_max_right (dep d) (depL ds); omega) j (by simpa using h1) (by simpa using h2)
end

open SeqAt in
/-- == without the look whether both are one object -/
theorem rcAt_of (I : Inv X pins σ H s) (d : D) (A : Around) (d' : D) (v v' : V) (u u' : Value) (h : Has X.K H d v) (h' : Has X.K H d' v') (r : RelV v u) (r' : RelV v' u') (hu : A.units + dep d < cLine) : RcAt A s u u' (eqD d d') := by
  have hu0 : A.units < cLine := by omega
  cases d with
  | non =>
    rw [Has.non_iff] at h; subst h
    cases r
    cases d' with
    | non => rw [Has.non_iff] at h'; subst h'; cases r'; exact RcAt.none_none
    | bl b => rw [Has.bl_iff] at h'; subst h'; cases r'; exact RcAt.none_bool _
    | int b => rw [Has.int_iff] at h'; subst h'; obtain ⟨t, rfl⟩ := r'; exact RcAt.none_int _ _
    | str b => rw [Has.str_iff] at h'; subst h'; obtain ⟨t, rfl⟩ := r'; exact RcAt.none_str _ _
    | tup b => obtain ⟨a, xs, rfl, q, _⟩ := Has.tup_iff.mp h'; cases r'; obtain ⟨its, _, p, _⟩ := I.tuple q; exact RcAt.none_tuple p hu0
    | lst b => obtain ⟨a, xs, rfl, q, _⟩ := Has.lst_iff.mp h'; cases r'; obtain ⟨its, _, p, _⟩ := I.list q; exact RcAt.none_list p.isList hu0
  | bl x =>
    rw [Has.bl_iff] at h; subst h
    cases r
    cases d' with
    | non => rw [Has.non_iff] at h'; subst h'; cases r'; exact RcAt.bool_none _
    | bl b => rw [Has.bl_iff] at h'; subst h'; cases r'; exact RcAt.bool_bool _ _
    | int b => rw [Has.int_iff] at h'; subst h'; obtain ⟨t, rfl⟩ := r'; exact RcAt.bool_int _ _ _
    | str b => rw [Has.str_iff] at h'; subst h'; obtain ⟨t, rfl⟩ := r'; exact RcAt.bool_str _ _ _
    | tup b => obtain ⟨a, xs, rfl, q, _⟩ := Has.tup_iff.mp h'; cases r'; obtain ⟨its, _, p, _⟩ := I.tuple q; exact RcAt.bool_tuple _ p hu0
    | lst b => obtain ⟨a, xs, rfl, q, _⟩ := Has.lst_iff.mp h'; cases r'; obtain ⟨its, _, p, _⟩ := I.list q; exact RcAt.bool_list _ p.isList hu0
  | int x =>
    rw [Has.int_iff] at h; subst h
    obtain ⟨t, rfl⟩ := r
    cases d' with
    | non => rw [Has.non_iff] at h'; subst h'; cases r'; exact RcAt.int_none _ _
    | bl b => rw [Has.bl_iff] at h'; subst h'; cases r'; exact RcAt.int_bool _ _ _
    | int b => rw [Has.int_iff] at h'; subst h'; obtain ⟨t, rfl⟩ := r'; exact RcAt.int_int _ _ _ _
    | str b => rw [Has.str_iff] at h'; subst h'; obtain ⟨t, rfl⟩ := r'; exact RcAt.int_str _ _ _ _
    | tup b => obtain ⟨a, xs, rfl, q, _⟩ := Has.tup_iff.mp h'; cases r'; obtain ⟨its, _, p, _⟩ := I.tuple q; exact RcAt.int_tuple _ _ p hu0
    | lst b => obtain ⟨a, xs, rfl, q, _⟩ := Has.lst_iff.mp h'; cases r'; obtain ⟨its, _, p, _⟩ := I.list q; exact RcAt.int_list _ _ p.isList hu0
  | str x =>
    rw [Has.str_iff] at h; subst h
    obtain ⟨t, rfl⟩ := r
    cases d' with
    | non => rw [Has.non_iff] at h'; subst h'; cases r'; exact RcAt.str_none _ _
    | bl b => rw [Has.bl_iff] at h'; subst h'; cases r'; exact RcAt.str_bool _ _ _
    | int b => rw [Has.int_iff] at h'; subst h'; obtain ⟨t, rfl⟩ := r'; exact RcAt.str_int _ _ _ _
    | str b => rw [Has.str_iff] at h'; subst h'; obtain ⟨t, rfl⟩ := r'; exact RcAt.str_str _ _ _ _
    | tup b => obtain ⟨a, xs, rfl, q, _⟩ := Has.tup_iff.mp h'; cases r'; obtain ⟨its, _, p, _⟩ := I.tuple q; exact RcAt.str_tuple _ _ p hu0
    | lst b => obtain ⟨a, xs, rfl, q, _⟩ := Has.lst_iff.mp h'; cases r'; obtain ⟨its, _, p, _⟩ := I.list q; exact RcAt.str_list _ _ p.isList hu0
  | tup x =>
    obtain ⟨a, xs, rfl, q, l⟩ := Has.tup_iff.mp h
    cases r
    obtain ⟨its, rv, p, _⟩ := I.tuple q
    cases d' with
    | non => rw [Has.non_iff] at h'; subst h'; cases r'; exact RcAt.tuple_none p hu0
    | bl b => rw [Has.bl_iff] at h'; subst h'; cases r'; exact RcAt.tuple_bool _ p hu0
    | int b => rw [Has.int_iff] at h'; subst h'; obtain ⟨t, rfl⟩ := r'; exact RcAt.tuple_int _ _ p hu0
    | str b => rw [Has.str_iff] at h'; subst h'; obtain ⟨t, rfl⟩ := r'; exact RcAt.tuple_str _ _ p hu0
    | tup y =>
      obtain ⟨b, ys, rfl, q', l'⟩ := Has.tup_iff.mp h'
      cases r'
      obtain ⟨its', rv', p', _⟩ := I.tuple q'
      have e := RcAt.tuples (A := A) (e := fun j => eqD (x.getD j .non) (y.getD j .non)) p p' hu0 (fun j h1 h2 => eqAtL_of I x A.in1 y xs ys its its' l l' rv rv' (by show A.units + 1 + _ < cLine; unfold dep at hu; omega) j (by simpa using h1) (by simpa using h2))
      unfold eqD
      rw [eqDL_eq, ← l.length, ← l'.length, rv.length, rv'.length]
      simpa using e
    | lst y => obtain ⟨b, ys, rfl, q', l'⟩ := Has.lst_iff.mp h'; cases r'; obtain ⟨its', _, p', _⟩ := I.list q'; exact RcAt.tuple_list p p'.isList hu0
  | lst x =>
    obtain ⟨a, xs, rfl, q, l⟩ := Has.lst_iff.mp h
    cases r
    obtain ⟨its, rv, p, _⟩ := I.list q
    cases d' with
    | non => rw [Has.non_iff] at h'; subst h'; cases r'; exact RcAt.list_none p.isList hu0
    | bl b => rw [Has.bl_iff] at h'; subst h'; cases r'; exact RcAt.list_bool _ p.isList hu0
    | int b => rw [Has.int_iff] at h'; subst h'; obtain ⟨t, rfl⟩ := r'; exact RcAt.list_int _ _ p.isList hu0
    | str b => rw [Has.str_iff] at h'; subst h'; obtain ⟨t, rfl⟩ := r'; exact RcAt.list_str _ _ p.isList hu0
    | lst y =>
      obtain ⟨b, ys, rfl, q', l'⟩ := Has.lst_iff.mp h'
      cases r'
      obtain ⟨its', rv', p', _⟩ := I.list q'
      unfold eqD
      rw [eqDL_eq, ← l.length, ← l'.length, rv.length, rv'.length]
      by_cases hl : its.length = its'.length
      · have e := RcAt.lists (A := A) (e := fun j => eqD (x.getD j .non) (y.getD j .non)) p.isList p'.isList (by simpa using hl) hu0 (fun j h1 h2 => eqAtL_of I x A.in1 y xs ys its its' l l' rv rv' (by show A.units + 1 + _ < cLine; unfold dep at hu; omega) j (by simpa using h1) (by simpa using h2))
        rw [← hl, Nat.min_self]
        simpa using e
      · have e := RcAt.lists_lengths (A := A) p.isList p'.isList (by simpa using hl) hu0
        have : (its.length == its'.length) = false := by simpa using hl
        rw [this, Bool.and_false]
        exact e
    | tup y => obtain ⟨b, ys, rfl, q', l'⟩ := Has.tup_iff.mp h'; cases r'; obtain ⟨its', _, p', _⟩ := I.tuple q'; exact RcAt.list_tuple p.isList p' hu0
open SeqAt in
/-- != -/
theorem rcNe_of (I : Inv X pins σ H s) (d : D) (A : Around) (d' : D) (v v' : V) (u u' : Value) (h : Has X.K H d v) (h' : Has X.K H d' v') (r : RelV v u) (r' : RelV v' u') (hu : A.units + dep d < cLine) : RcNeAt A s u u' (!eqD d d') := by
  have hu0 : A.units < cLine := by omega
  cases d with
  | non =>
    rw [Has.non_iff] at h; subst h
    cases r
    cases d' with
    | non => rw [Has.non_iff] at h'; subst h'; cases r'; exact RcNeAt.none_none
    | bl b => rw [Has.bl_iff] at h'; subst h'; cases r'; exact RcNeAt.none_bool _
    | int b => rw [Has.int_iff] at h'; subst h'; obtain ⟨t, rfl⟩ := r'; exact RcNeAt.none_int _ _
    | str b => rw [Has.str_iff] at h'; subst h'; obtain ⟨t, rfl⟩ := r'; exact RcNeAt.none_str _ _
    | tup b => obtain ⟨a, xs, rfl, q, _⟩ := Has.tup_iff.mp h'; cases r'; obtain ⟨its, _, p, _⟩ := I.tuple q; exact RcNeAt.none_tuple p hu0
    | lst b => obtain ⟨a, xs, rfl, q, _⟩ := Has.lst_iff.mp h'; cases r'; obtain ⟨its, _, p, _⟩ := I.list q; exact RcNeAt.none_list p.isList hu0
  | bl x =>
    rw [Has.bl_iff] at h; subst h
    cases r
    cases d' with
    | non => rw [Has.non_iff] at h'; subst h'; cases r'; exact RcNeAt.bool_none _
    | bl b => rw [Has.bl_iff] at h'; subst h'; cases r'; exact RcNeAt.bool_bool _ _
    | int b => rw [Has.int_iff] at h'; subst h'; obtain ⟨t, rfl⟩ := r'; exact RcNeAt.bool_int _ _ _
    | str b => rw [Has.str_iff] at h'; subst h'; obtain ⟨t, rfl⟩ := r'; exact RcNeAt.bool_str _ _ _
    | tup b => obtain ⟨a, xs, rfl, q, _⟩ := Has.tup_iff.mp h'; cases r'; obtain ⟨its, _, p, _⟩ := I.tuple q; exact RcNeAt.bool_tuple _ p hu0
    | lst b => obtain ⟨a, xs, rfl, q, _⟩ := Has.lst_iff.mp h'; cases r'; obtain ⟨its, _, p, _⟩ := I.list q; exact RcNeAt.bool_list _ p.isList hu0
  | int x =>
    rw [Has.int_iff] at h; subst h
    obtain ⟨t, rfl⟩ := r
    cases d' with
    | non => rw [Has.non_iff] at h'; subst h'; cases r'; exact RcNeAt.int_none _ _
    | bl b => rw [Has.bl_iff] at h'; subst h'; cases r'; exact RcNeAt.int_bool _ _ _
    | int b => rw [Has.int_iff] at h'; subst h'; obtain ⟨t, rfl⟩ := r'; exact RcNeAt.int_int _ _ _ _
    | str b => rw [Has.str_iff] at h'; subst h'; obtain ⟨t, rfl⟩ := r'; exact RcNeAt.int_str _ _ _ _
    | tup b => obtain ⟨a, xs, rfl, q, _⟩ := Has.tup_iff.mp h'; cases r'; obtain ⟨its, _, p, _⟩ := I.tuple q; exact RcNeAt.int_tuple _ _ p hu0
    | lst b => obtain ⟨a, xs, rfl, q, _⟩ := Has.lst_iff.mp h'; cases r'; obtain ⟨its, _, p, _⟩ := I.list q; exact RcNeAt.int_list _ _ p.isList hu0
  | str x =>
    rw [Has.str_iff] at h; subst h
    obtain ⟨t, rfl⟩ := r
    cases d' with
    | non => rw [Has.non_iff] at h'; subst h'; cases r'; exact RcNeAt.str_none _ _
    | bl b => rw [Has.bl_iff] at h'; subst h'; cases r'; exact RcNeAt.str_bool _ _ _
    | int b => rw [Has.int_iff] at h'; subst h'; obtain ⟨t, rfl⟩ := r'; exact RcNeAt.str_int _ _ _ _
    | str b => rw [Has.str_iff] at h'; subst h'; obtain ⟨t, rfl⟩ := r'; exact RcNeAt.str_str _ _ _ _
    | tup b => obtain ⟨a, xs, rfl, q, _⟩ := Has.tup_iff.mp h'; cases r'; obtain ⟨its, _, p, _⟩ := I.tuple q; exact RcNeAt.str_tuple _ _ p hu0
    | lst b => obtain ⟨a, xs, rfl, q, _⟩ := Has.lst_iff.mp h'; cases r'; obtain ⟨its, _, p, _⟩ := I.list q; exact RcNeAt.str_list _ _ p.isList hu0
  | tup x =>
    obtain ⟨a, xs, rfl, q, l⟩ := Has.tup_iff.mp h
    cases r
    obtain ⟨its, rv, p, _⟩ := I.tuple q
    cases d' with
    | non => rw [Has.non_iff] at h'; subst h'; cases r'; exact RcNeAt.tuple_none p hu0
    | bl b => rw [Has.bl_iff] at h'; subst h'; cases r'; exact RcNeAt.tuple_bool _ p hu0
    | int b => rw [Has.int_iff] at h'; subst h'; obtain ⟨t, rfl⟩ := r'; exact RcNeAt.tuple_int _ _ p hu0
    | str b => rw [Has.str_iff] at h'; subst h'; obtain ⟨t, rfl⟩ := r'; exact RcNeAt.tuple_str _ _ p hu0
    | tup y =>
      obtain ⟨b, ys, rfl, q', l'⟩ := Has.tup_iff.mp h'
      cases r'
      obtain ⟨its', rv', p', _⟩ := I.tuple q'
      have e := RcNeAt.tuples (A := A) (e := fun j => eqD (x.getD j .non) (y.getD j .non)) p p' hu0 (fun j h1 h2 => eqAtL_of I x A.in1 y xs ys its its' l l' rv rv' (by show A.units + 1 + _ < cLine; unfold dep at hu; omega) j (by simpa using h1) (by simpa using h2))
      unfold eqD
      rw [eqDL_eq, ← l.length, ← l'.length, rv.length, rv'.length]
      simpa using e
    | lst y => obtain ⟨b, ys, rfl, q', l'⟩ := Has.lst_iff.mp h'; cases r'; obtain ⟨its', _, p', _⟩ := I.list q'; exact RcNeAt.tuple_list p p'.isList hu0
  | lst x =>
    obtain ⟨a, xs, rfl, q, l⟩ := Has.lst_iff.mp h
    cases r
    obtain ⟨its, rv, p, _⟩ := I.list q
    cases d' with
    | non => rw [Has.non_iff] at h'; subst h'; cases r'; exact RcNeAt.list_none p.isList hu0
    | bl b => rw [Has.bl_iff] at h'; subst h'; cases r'; exact RcNeAt.list_bool _ p.isList hu0
    | int b => rw [Has.int_iff] at h'; subst h'; obtain ⟨t, rfl⟩ := r'; exact RcNeAt.list_int _ _ p.isList hu0
    | str b => rw [Has.str_iff] at h'; subst h'; obtain ⟨t, rfl⟩ := r'; exact RcNeAt.list_str _ _ p.isList hu0
    | lst y =>
      obtain ⟨b, ys, rfl, q', l'⟩ := Has.lst_iff.mp h'
      cases r'
      obtain ⟨its', rv', p', _⟩ := I.list q'
      unfold eqD
      rw [eqDL_eq, ← l.length, ← l'.length, rv.length, rv'.length]
      by_cases hl : its.length = its'.length
      · have e := RcNeAt.lists (A := A) (e := fun j => eqD (x.getD j .non) (y.getD j .non)) p.isList p'.isList (by simpa using hl) hu0 (fun j h1 h2 => eqAtL_of I x A.in1 y xs ys its its' l l' rv rv' (by show A.units + 1 + _ < cLine; unfold dep at hu; omega) j (by simpa using h1) (by simpa using h2))
        rw [← hl, Nat.min_self]
        simpa using e
      · have e := RcNeAt.lists_lengths (A := A) p.isList p'.isList (by simpa using hl) hu0
        have : (its.length == its'.length) = false := by simpa using hl
        rw [this, Bool.and_false]
        exact e
    | tup y => obtain ⟨b, ys, rfl, q', l'⟩ := Has.tup_iff.mp h'; cases r'; obtain ⟨its', _, p', _⟩ := I.tuple q'; exact RcNeAt.list_tuple p.isList p' hu0
end
end FL

set_option Elab.async false
set_option linter.all false
set_option maxRecDepth 100000
set_option maxHeartbeats 4000000
namespace FL
open PySem PySem.Spec PyProof.Rows L2

theorem HasR.full {K : PySem.W.Frag} {H₀ Hf₀ H Hf : Hp} {σ : St} {ρ : Rho} {d : D} {v : V} (h : HasR K Hf σ ρ d v) (R : Rep K H₀ Hf₀ σ ρ H Hf) : Has K H d v := by
  rcases h with h | ⟨i, ds, rfl, e1, e2⟩
  · exact h.mono R.sf
  · obtain ⟨a, p1, ⟨xs, p2, p3⟩, _⟩ := R.ow i _ e1 rfl
    rw [e2] at p1; cases p1
    exact Has.lst_iff.mpr ⟨a, xs, rfl, SqL.of p2, p3.mono R.sf⟩

section
variable {X : Cx} {e a b c : Expr} {es : List Expr} {f g h : FE} {fa ga : FA} {ft gt : FT} {pos : Pos} {t t' : TE} {kk : Nat}
def rEqD (K : PySem.W.Frag) : R2 := fun x y H Q => ∃ d d', Has K H d x ∧ Has K H d' y ∧ dep d ≤ 100 ∧ Q (.bl (eqD d d')) H
def rNeD (K : PySem.W.Frag) : R2 := fun x y H Q => ∃ d d', Has K H d x ∧ Has K H d' y ∧ dep d ≤ 100 ∧ Q (.bl (!eqD d d')) H
theorem op_eqD (hr : Room kk X.A) : OpR X (compareOp .Eq) (rEqD X.K) := by
  intro pins s σ H x y v u Q I rx ry h
  obtain ⟨d, d', h1, h2, h3, q⟩ := h
  exact rcAt_of I d X.A d' x y v u h1 h2 rx ry (by have := hr.un; omega) X.prog X.w X.xe _ ⟨.bl _, H, I, rfl, q⟩
theorem op_neD (hr : Room kk X.A) : OpR X (compareOp .NotEq) (rNeD X.K) := by
  intro pins s σ H x y v u Q I rx ry h
  obtain ⟨d, d', h1, h2, h3, q⟩ := h
  exact rcNe_of I d X.A d' x y v u h1 h2 rx ry (by have := hr.un; omega) X.prog X.w X.xe _ ⟨.bl _, H, I, rfl, q⟩
def eqF : D → D → Option D := fun x y => if dep x ≤ 100 then some (.bl (eqD x y)) else none
def neF : D → D → Option D := fun x y => if dep x ≤ 100 then some (.bl (!eqD x y)) else none
theorem opD_eq : OpD X (rEqD X.K) eqF := by
  intro σ ρ H₀ Hf₀ H Hf x y dx dy d Q R hx hy hφ k
  unfold eqF at hφ
  split at hφ
  · cases hφ
    exact ⟨dx, dy, hx.full R, hy.full R, by assumption, k _ _ _ R sameR sameR (Has.bl_iff.mpr rfl)⟩
  · cases hφ
theorem opD_ne : OpD X (rNeD X.K) neF := by
  intro σ ρ H₀ Hf₀ H Hf x y dx dy d Q R hx hy hφ k
  unfold neF at hφ
  split at hφ
  · cases hφ
    exact ⟨dx, dy, hx.full R, hy.full R, by assumption, k _ _ _ R sameR sameR (Has.bl_iff.mpr rfl)⟩
  · cases hφ
theorem d_eq (hr : Room kk X.A) (ha : DR X a f) (hb : DR X b g) : DE X (.Compare a [.Eq] [b] pos) (bind2 eqF f g) := d_cmp (op_eqD hr) opD_eq ha hb (nomark _)
theorem dt_eq (hr : Room kk X.A) (ha : DR X a f) (hb : DR X b g) : DT X (.Compare a [.Eq] [b] pos) (blF (bind2 eqF f g)) := pt_of_cmp (op_eqD hr) opD_eq ha hb (nomark _)
theorem dt_ne (hr : Room kk X.A) (ha : DR X a f) (hb : DR X b g) : DT X (.Compare a [.NotEq] [b] pos) (blF (bind2 neF f g)) := pt_of_cmp (op_neD hr) opD_ne ha hb (nomark _)

def FnR (X : Cx) (r : List V → Hp → VK → Prop) (φ : List D → Option D) : Prop :=
  ∀ (σ : St) (ρ : Rho) (H₀ Hf₀ H Hf : Hp) (xs : List V) (ds : List D) (d : D) (Q : VK), Rep X.K H₀ Hf₀ σ ρ H Hf → HasRL X.K Hf σ ρ ds xs → φ ds = some d →
    (∀ v H' Hf', Rep X.K H₀ Hf₀ σ ρ H' Hf' → Same H H' → Same Hf Hf' → Has X.K Hf' d v → Q v H') → r xs H Q
def appF (φ : List D → Option D) (fa : FA) : FE := fun ρ => (fa ρ).bind φ
theorem bindA_some {α : Type} {f : FA} {k : List D → Option α} {ρ : Rho} {r : α} (h : (f ρ).bind k = some r) : ∃ b, f ρ = some b ∧ k b = some r := by
  cases hf : f ρ with
  | none => rw [hf] at h; cases h
  | some x => rw [hf] at h; exact ⟨x, rfl, h⟩
theorem tCB_of {r : List V → Hp → VK → Prop} {φ : List D → Option D} (hφ : FnR X r φ) (σ : St) (H : Hp) (Q : VK) (hh : tF X.K (appF φ fa) σ H Q) : tCB r (tAR X.K fa) σ H Q := by
  obtain ⟨H₀, Hf₀, ρ, Hf, d, R, q, k⟩ := hh
  obtain ⟨ds, e1, e2⟩ := bindA_some q
  exact ⟨H₀, Hf₀, ρ, Hf, ds, R, e1, fun vs H1 Hf1 R1 s1 t1 h1 => hφ σ ρ H₀ Hf₀ H1 Hf1 vs ds d Q R1 h1 e2 fun v H2 Hf2 R2 s2 t2 h2 => k _ _ _ R2 (s1.trans s2) (t1.trans t2) h2⟩
theorem d_callB {id : String} {x : Str} {p : Pos} {r : List V → Hp → VK → Prop} {φ : List D → Option D} (hc : CallR X (.builtin id) r) (hφ : FnR X r φ) (hg : Gl X x) (hm : X.mg x = none) (hv : bootBuiltins x = some (.builtin id)) (ha : DAR X (e :: es) fa)
    (hn : x ≠ "__name__" := by decide) (hdb : (x == ("__debug__" : Str)) = false := by decide)
    (he : starEach (e :: es) X.env = (false, eval e X.env) :: starEach es X.env := by rfl) (hpl : (backTo pos (starEach es X.env)).any (·.1) = false := by rfl) : DE X (.Call (.Name x p) (e :: es) [] pos) (appF φ fa) :=
  pe_imp (pe_callB hc hg hm hv ha hn hdb he hpl) (tCB_of hφ)
theorem d_callTy {T : String} {x : Str} {p : Pos} {r : List V → Hp → VK → Prop} {φ : List D → Option D} (hc : CallR X (.type T) r) (hφ : FnR X r φ) (hg : Gl X x) (hm : X.mg x = none) (hv : bootBuiltins x = some (.type T)) (ha : DAR X (e :: es) fa)
    (hn : x ≠ "__name__" := by decide) (hdb : (x == ("__debug__" : Str)) = false := by decide)
    (he : starEach (e :: es) X.env = (false, eval e X.env) :: starEach es X.env := by rfl) (hpl : (backTo pos (starEach es X.env)).any (·.1) = false := by rfl) : DE X (.Call (.Name x p) (e :: es) [] pos) (appF φ fa) :=
  pe_imp (pe_callTy hc hg hm hv ha hn hdb he hpl) (tCB_of hφ)
theorem HasRL.one {K : PySem.W.Frag} {Hf : Hp} {σ : St} {ρ : Rho} {d : D} {xs : List V} (h : HasRL K Hf σ ρ [d] xs) : ∃ v, xs = [v] ∧ HasR K Hf σ ρ d v := by
  cases h with
  | cons h1 h2 => cases h2; exact ⟨_, rfl, h1⟩
theorem HasRL.two {K : PySem.W.Frag} {Hf : Hp} {σ : St} {ρ : Rho} {d d' : D} {xs : List V} (h : HasRL K Hf σ ρ [d, d'] xs) : ∃ v v', xs = [v, v'] ∧ HasR K Hf σ ρ d v ∧ HasR K Hf σ ρ d' v' := by
  cases h with
  | cons h1 h2 =>
    cases h2 with
    | cons h2 h3 => cases h3; exact ⟨_, _, rfl, h1, h2⟩
def lenD : List D → Option D
  | [.lst ds] => some (.int ds.length)
  | [.tup ds] => some (.int ds.length)
  | [.str x] => if x.length ≤ sizeLine then some (.int x.length) else none
  | _ => none
theorem call_lenG : CallR X (.builtin "len") (fun xs H Q => (∃ p ys, xs = [.ref p] ∧ (SqL X.K H p ys ∨ SqT X.K H p ys) ∧ Q (.int ys.length) H) ∨ (∃ z, xs = [.str z] ∧ z.length ≤ sizeLine ∧ Q (.int z.length) H)) := CallR.or call_len_seq call_len_str
theorem fnR_len : FnR X (fun xs H Q => (∃ p ys, xs = [.ref p] ∧ (SqL X.K H p ys ∨ SqT X.K H p ys) ∧ Q (.int ys.length) H) ∨ (∃ z, xs = [.str z] ∧ z.length ≤ sizeLine ∧ Q (.int z.length) H)) lenD := by
  intro σ ρ H₀ Hf₀ H Hf xs ds d Q R hx hφ k
  unfold lenD at hφ
  split at hφ
  · cases hφ
    obtain ⟨v, rfl, hv⟩ := hx.one
    obtain ⟨a, ys, rfl, q, l⟩ := hv.lst R
    exact .inl ⟨a, ys, rfl, .inl q, k _ _ _ R sameR sameR (by rw [← l.length]; exact Has.int_iff.mpr rfl)⟩
  · cases hφ
    obtain ⟨v, rfl, hv⟩ := hx.one
    obtain ⟨a, ys, rfl, q, l⟩ := hv.tup R
    exact .inl ⟨a, ys, rfl, .inr q, k _ _ _ R sameR sameR (by rw [← l.length]; exact Has.int_iff.mpr rfl)⟩
  · split at hφ
    · cases hφ
      obtain ⟨v, rfl, hv⟩ := hx.one
      exact .inr ⟨_, by rw [hv.str], by assumption, k _ _ _ R sameR sameR (Has.int_iff.mpr rfl)⟩
    · cases hφ
  · cases hφ
def maxD : List D → Option D
  | [.int i, .int j] => some (.int (if j > i then j else i))
  | _ => none
def minD : List D → Option D
  | [.int i, .int j] => some (.int (if j < i then j else i))
  | _ => none
theorem fnR_max : FnR X (fun xs H Q => ∃ i j, xs = [.int i, .int j] ∧ Q (.int (if j > i then j else i)) H) maxD := by
  intro σ ρ H₀ Hf₀ H Hf xs ds d Q R hx hφ k
  unfold maxD at hφ
  split at hφ
  · cases hφ
    obtain ⟨v, v', rfl, hv, hv'⟩ := hx.two
    exact ⟨_, _, by rw [hv.int, hv'.int], k _ _ _ R sameR sameR (Has.int_iff.mpr rfl)⟩
  · cases hφ
/-- int(x) of an int or a bool -/
def intD : List D → Option D
  | [.int i] => some (.int i)
  | [.bl b] => some (.int (if b then 1 else 0))
  | _ => none
/-- str(i) -/
def strD : List D → Option D
  | [.int i] => if i.natAbs.log2 < 1920 then some (.str (toString i)) else none
  | _ => none
theorem fnR_str : FnR X (fun xs H Q => ∃ i, xs = [.int i] ∧ i.natAbs.log2 < 1920 ∧ Q (.str (toString i)) H) strD := by
  intro σ ρ H₀ Hf₀ H Hf xs ds d Q R hx hφ k
  unfold strD at hφ
  split at hφ
  · split at hφ
    · cases hφ
      obtain ⟨v, rfl, hv⟩ := hx.one
      exact ⟨_, by rw [hv.int], by assumption, k _ _ _ R sameR sameR (Has.str_iff.mpr rfl)⟩
    · cases hφ
  · cases hφ

def seqF (F G : FS) : FS := fun ρ => (F ρ).bind fun o => match o with
  | .nx ρ' => G ρ'
  | o => some o
def nxF : FS := fun ρ => some (.nx ρ)
variable {st : Stmt} {sts rest : List Stmt} {F G : FS}
theorem bindO_some {α : Type} {F : FS} {k : Out → Option α} {ρ : Rho} {r : α} (h : (F ρ).bind k = some r) : ∃ b, F ρ = some b ∧ k b = some r := by
  cases hf : F ρ with
  | none => rw [hf] at h; cases h
  | some x => rw [hf] at h; exact ⟨x, rfl, h⟩
theorem dss_nil : DSs X [] nxF := pss_imp pss_nil fun D' σ H ⟨H₀, Hf₀, ρ, Hf, o, R, q, k⟩ => by cases q; exact k _ _ _ R sameR
theorem dss_cons (h1 : DS X st F) (h2 : DSs X rest G) : DSs X (st :: rest) (seqF F G) := pss_imp (pss_cons h1 h2) fun D' σ H ⟨H₀, Hf₀, ρ, Hf, o, R, q, k⟩ => by
  obtain ⟨o1, e1, e2⟩ := bindO_some q
  refine ⟨H₀, Hf₀, ρ, Hf, o1, R, e1, ?_⟩
  cases o1 with
  | nx ρ' =>
    intro σ' H' Hf' R' s'
    refine ⟨H₀, Hf₀, ρ', Hf', o, R', e2, ?_⟩
    cases o with
    | nx _ => exact fun σ2 H2 Hf2 R2 s2 => k _ _ _ R2 (s'.trans s2)
    | bk _ => exact fun σ2 H2 Hf2 R2 s2 => k _ _ _ R2 (s'.trans s2)
    | ct _ => exact fun σ2 H2 Hf2 R2 s2 => k _ _ _ R2 (s'.trans s2)
    | rt _ => exact fun v σ2 ρ2 H2 Hf2 R2 s2 h2 => k _ _ _ _ _ R2 (s'.trans s2) h2
  | bk _ => cases e2; exact k
  | ct _ => cases e2; exact k
  | rt _ => cases e2; exact k
theorem dss_one (h1 : DS X st F) : DSs X [st] F := pss_one h1
def retF (f : FE) : FS := fun ρ => (f ρ).bind fun d => some (.rt d)
theorem ds_ret (he : DE X e f) : DS X (.Return (some e) pos) (retF f) := ps_imp (ps_ret he) fun D' σ H ⟨H₀, Hf₀, ρ, Hf, o, R, q, k⟩ => by
  obtain ⟨d, e1, e2⟩ := bindV_some q
  cases e2
  exact ⟨H₀, Hf₀, ρ, Hf, d, R, e1, fun v H1 Hf1 R1 s1 t1 h1 => k v σ ρ H1 Hf1 R1 t1 h1⟩
def retN : FS := fun _ => some (.rt .non)
def bkF : FS := fun ρ => some (.bk ρ)
def ctF : FS := fun ρ => some (.ct ρ)
def dropF (f : FE) : FS := fun ρ => (f ρ).bind fun _ => some (.nx ρ)
def ifS (c : FT) (F G : FS) : FS := fun ρ => (c ρ).bind fun b => if b = true then F ρ else G ρ
theorem EndO.mono {K : PySem.W.Frag} {H₀ Hf₀ Hf Hf1 : Hp} {D' : Ends} {o : Out} (k : EndO K H₀ Hf₀ Hf D' o) (t : Same Hf Hf1) : EndO K H₀ Hf₀ Hf1 D' o := by
  cases o with
  | nx _ => exact fun σ2 H2 Hf2 R2 s2 => k _ _ _ R2 (t.trans s2)
  | bk _ => exact fun σ2 H2 Hf2 R2 s2 => k _ _ _ R2 (t.trans s2)
  | ct _ => exact fun σ2 H2 Hf2 R2 s2 => k _ _ _ R2 (t.trans s2)
  | rt _ => exact fun v σ2 ρ2 H2 Hf2 R2 s2 h2 => k _ _ _ _ _ R2 (t.trans s2) h2
theorem ds_if {a b : List Stmt} (hc : DT X c ft) (ha : DSs X a F) (hb : DSs X b G) : DS X (.If c a b pos) (ifS ft F G) := ps_imp (ps_if hc ha hb) fun D' σ H ⟨H₀, Hf₀, ρ, Hf, o, R, q, k⟩ => by
  obtain ⟨x, e1, e2⟩ := bindT_some q
  refine ⟨H₀, Hf₀, ρ, Hf, x, R, e1, fun H1 Hf1 R1 s1 t1 => ?_⟩
  cases x with
  | true => exact iteT ⟨H₀, Hf₀, ρ, Hf1, o, R1, e2, k.mono t1⟩
  | false => exact iteF ⟨H₀, Hf₀, ρ, Hf1, o, R1, e2, k.mono t1⟩
/-- name = value -/
def asgF (i : Nat) (f : FE) : FS := fun ρ => (f ρ).bind fun d => some (.nx (ρ.set i (.fr d)))
theorem ds_asg {x : Str} {pos' : Pos} (i : Nat) (hN : X.N.Nodup) (he : DE X e f) (hi : X.N[i]? = some x := by rfl) (hx : Loc X.env.scope x := by first | exact Or.inl rfl | exact Or.inr rfl) (hs : swapsWith e (some (.Name x pos')) pos.line X.env = pure false := by rfl)
    (hf : X.fn x = true ∨ X.env.scope.names.lookup x = some .local := by first | exact .inl rfl | exact .inr rfl | assumption) : DS X (.Assign [.Name x pos'] e pos) (asgF i f) :=
  ps_imp (ps_set hN hi hx he hs hf) fun D' σ H ⟨H₀, Hf₀, ρ, Hf, o, R, q, k⟩ => by
    obtain ⟨d, e1, e2⟩ := bindV_some q
    cases e2
    exact ⟨H₀, Hf₀, ρ, Hf, d, R, e1, fun v H1 Hf1 R1 s1 t1 h1 => k _ _ _ (R1.set i h1) t1⟩
/-- name = a new list, which the name owns -/
def asgN (i : Nat) (f : FA) : FS := fun ρ => (f ρ).bind fun ds => some (.nx (ρ.set i (.ol ds)))
theorem ds_asgN {x : Str} {pos' : Pos} (i : Nat) (hN : X.N.Nodup) (he : DN X e fa) (hi : X.N[i]? = some x := by rfl) (hx : Loc X.env.scope x := by first | exact Or.inl rfl | exact Or.inr rfl) (hs : swapsWith e (some (.Name x pos')) pos.line X.env = pure false := by rfl)
    (hf : X.fn x = true ∨ X.env.scope.names.lookup x = some .local := by first | exact .inl rfl | exact .inr rfl | assumption) : DS X (.Assign [.Name x pos'] e pos) (asgN i fa) :=
  ps_imp (ps_set hN hi hx he hs hf) fun D' σ H ⟨H₀, Hf₀, ρ, Hf, o, R, q, k⟩ => by
    obtain ⟨d, e1, e2⟩ := bindA_some q
    cases e2
    refine ⟨H₀, Hf₀, ρ, Hf, d, R, e1, fun a xs H1 Hf1 R1 s1 t1 h1 ha hn hh => k _ _ _ (R1.setOwn i rfl ⟨xs, ha, h1⟩ hn (R.s0.free hh) ?_) t1⟩
    intro j sl z o z'
    obtain ⟨b, p1, p2, _⟩ := R.ow j sl z o
    rw [p1] at z'; cases z'
    obtain ⟨ob, q'⟩ := p2.there o
    rw [q'] at hh; cases hh
/-- a list of one's own is frozen ahead -/
def frz (i : Nat) (ρ : Rho) : Option Rho := match ρ[i]? with
  | some (.ol ds) => some (ρ.set i (.fr (.lst ds)))
  | some (.fr _) => some ρ
  | _ => none
def frzF (i : Nat) (F : FS) : FS := fun ρ => (frz i ρ).bind F
/-- targets -/
abbrev FG := D → Rho → Option Rho
def tG (K : PySem.W.Frag) (γ : FG) : TG := fun v σ H Q => ∃ H₀ Hf₀ ρ Hf d ρ', Rep K H₀ Hf₀ σ ρ H Hf ∧ Has K Hf d v ∧ γ d ρ = some ρ' ∧ ∀ σ' H' Hf', Rep K H₀ Hf₀ σ' ρ' H' Hf' → Same Hf Hf' → Q σ' H'
abbrev FGs := List D → Rho → Option Rho
def DG (X : Cx) (tg : Expr) (γ : FG) : Prop := PG X tg (tG X.K γ)
theorem pg_imp {tg : Expr} {t t' : TG} (h : PG X tg t) (i : ∀ v σ H Q, t' v σ H Q → t v σ H Q) : PG X tg t' := fun pins s σ H v u Q I r hw => h pins s σ H v u Q I r (i _ _ _ _ hw)
def nameG (i : Nat) : FG := fun d ρ => some (ρ.set i (.fr d))
theorem dg_name {x : Str} (i : Nat) (hN : X.N.Nodup) (hi : X.N[i]? = some x := by rfl) (hx : Loc X.env.scope x := by first | exact Or.inl rfl | exact Or.inr rfl) (hf : X.fn x = true ∨ X.env.scope.names.lookup x = some .local := by first | exact .inl rfl | exact .inr rfl | assumption) : DG X (.Name x pos) (nameG i) :=
  pg_imp (pg_name hN hi hx hf) fun v σ H Q ⟨H₀, Hf₀, ρ, Hf, d, ρ', R, h, q, k⟩ => by
    cases q
    exact k _ _ _ (R.set i h) sameR
def nilG : FGs := fun ds ρ => match ds with
  | [] => some ρ
  | _ => none
def consG (γ : FG) (δ : FGs) : FGs := fun ds ρ => match ds with
  | d :: r => (γ d ρ).bind fun ρ' => δ r ρ'
  | _ => none
def tupG (n : Nat) (δ : FGs) : FG := fun d ρ => match d with
  | .tup ds => if ds.length = n then δ ds ρ else none
  | _ => none
/-- target = value -/
def asgG (γ : FG) (f : FE) : FS := fun ρ => (f ρ).bind fun d => (γ d ρ).bind fun ρ' => some (.nx ρ')
end
end FL

set_option Elab.async false
set_option linter.all false
set_option maxRecDepth 100000
set_option maxHeartbeats 4000000
namespace FL
open PySem PySem.Spec PyProof.Rows L2

def loopF (γ : FG) (B : FS) : List D → Rho → Option Out
  | [], ρ => some (.nx ρ)
  | d :: ds, ρ => (γ d ρ).bind fun ρ1 => (B ρ1).bind fun o => match o with
    | .nx ρ2 => loopF γ B ds ρ2
    | .ct ρ2 => loopF γ B ds ρ2
    | .bk ρ2 => some (.nx ρ2)
    | .rt d => some (.rt d)
def forF (fi : FA) (γ : FG) (B : FS) : FS := fun ρ => (fi ρ).bind fun ds => loopF γ B ds ρ
/-- how heaps grow in a step that changes nothing -/
structure Grows (H Hf H' Hf' : Hp) : Prop where
  h : Same H H'
  f : Same Hf Hf'
  fh : Same Hf' H'
  new : ∀ b o, Hf' b = some o → Hf b = some o ∨ H b = none ∨ Tp o
theorem Rep.grows {K : PySem.W.Frag} {H₀ Hf₀ : Hp} {σ : St} {ρ : Rho} {H Hf H' Hf' : Hp} (R : Rep K H₀ Hf₀ σ ρ H Hf) (g : Grows H Hf H' Hf') : Rep K H₀ Hf₀ σ ρ H' Hf' := R.grow g.h g.f g.fh g.new
theorem Grows.refl {H Hf : Hp} (h : Same Hf H) : Grows H Hf H Hf := ⟨sameR, sameR, h, fun _ _ e => .inl e⟩
/-- the iterator yields ds, one after another -/
def Walks (K : PySem.W.Frag) (Hf : Hp) (J : It) (ds : List D) : Prop :=
  ∀ (H' Hf' : Hp), Same Hf Hf' → Same Hf' H' → ∀ i : Nat, (∀ d, ds[i]? = some d → J.go i H' ∧ ∀ x H2, J.yld i H' x H2 → ∃ Hf2, Grows H' Hf' H2 Hf2 ∧ Has K Hf2 d x) ∧ (ds.length ≤ i → J.stop i H')
def tI (K : PySem.W.Frag) (fi : FA) : TI := fun σ H R' => ∃ H₀ Hf₀ ρ Hf ds, Rep K H₀ Hf₀ σ ρ H Hf ∧ fi ρ = some ds ∧ ∀ J H' Hf', Rep K H₀ Hf₀ σ ρ H' Hf' → Same H H' → Same Hf Hf' → Walks K Hf' J ds → R' J H'
def DI (X : Cx) (tg iter : Expr) (fi : FA) : Prop := PI X tg iter (tI X.K fi)

section
variable {X : Cx} {e a b c tg iter : Expr} {es : List Expr} {f g h : FE} {fa ga fi : FA} {ft gt : FT} {pos : Pos} {t t' : TE} {kk : Nat} {st : Stmt} {sts rest body : List Stmt} {F G B : FS} {γ : FG}
theorem ds_for (hp : PassesOwn (model X.prog X.w) X.A X.env X.xe) (hc : X.calm = true) (hi : DI X tg iter fi) (hg : DG X tg γ) (hb : DSs X body B)
    (hs : ∀ x, foldedSetIterable iter X.env x = pure x := by intro _; rfl) : DS X (.For tg iter body [] pos) (forF fi γ B) :=
  ps_imp (ps_for hp hc hi hg hb hs) fun D' σ H ⟨H₀, Hf₀, ρ, Hf, o, R, q, k⟩ => by
    obtain ⟨ds, e1, e2⟩ := bindA_some q
    refine ⟨H₀, Hf₀, ρ, Hf, ds, R, e1, fun J H1 Hf1 R1 _ t1 wk => ?_⟩
    have k1 := k.mono t1
    refine ⟨fun i m σ H => m = ds.length - i ∧ i ≤ ds.length ∧ ∃ ρ Hf', Rep X.K H₀ Hf₀ σ ρ H Hf' ∧ Same Hf1 Hf' ∧ loopF γ B (ds.drop i) ρ = some o, ⟨ds.length, by simp, Nat.zero_le _, ρ, Hf1, R1, sameR, by simpa using e2⟩, ?_⟩
    rintro i m σ2 H2 ⟨rfl, hi, ρ2, Hf2, R2, t2, el⟩
    obtain ⟨w1, w2⟩ := wk H2 Hf2 t2 R2.sf i
    by_cases hil : i < ds.length
    · right
      have hd : ds[i]? = some ds[i] := List.getElem?_eq_getElem hil
      obtain ⟨go, yld⟩ := w1 _ hd
      refine ⟨go, ?_⟩
      rw [List.drop_eq_getElem_cons hil] at el
      unfold loopF at el
      cases eg : γ ds[i] ρ2 with
      | none => rw [eg] at el; cases el
      | some ρ3 =>
        rw [eg] at el
        simp only [Option.bind_some] at el
        obtain ⟨o1, eb, eo⟩ := bindO_some el
        refine ⟨fun σ' H' => ∃ ρ' Hf', Rep X.K H₀ Hf₀ σ' ρ' H' Hf' ∧ Same Hf1 Hf' ∧ loopF γ B (ds.drop (i + 1)) ρ' = some o, ?_, ?_⟩
        · rintro σ' H' ⟨ρ', Hf', R', t', e'⟩
          exact ⟨ds.length - (i + 1), by omega, rfl, hil, ρ', Hf', R', t', e'⟩
        · intro x H3 hy
          obtain ⟨Hf3, gr, hx⟩ := yld x H3 hy
          refine ⟨H₀, Hf₀, ρ2, Hf3, ds[i], ρ3, R2.grows gr, hx, eg, fun σ4 H4 Hf4 R4 t4 => ?_⟩
          refine ⟨H₀, Hf₀, ρ3, Hf4, o1, R4, eb, ?_⟩
          have tt : Same Hf1 Hf4 := (t2.trans gr.f).trans t4
          cases o1 with
          | nx ρ5 => exact fun σ5 H5 Hf5 R5 t5 => ⟨ρ5, Hf5, R5, tt.trans t5, eo⟩
          | ct ρ5 => exact fun σ5 H5 Hf5 R5 t5 => ⟨ρ5, Hf5, R5, tt.trans t5, eo⟩
          | bk ρ5 => cases eo; exact fun σ5 H5 Hf5 R5 t5 => k1 _ _ _ R5 (tt.trans t5)
          | rt d => cases eo; exact fun v σ5 ρ5 H5 Hf5 R5 t5 h5 => k1 _ _ _ _ _ R5 (tt.trans t5) h5
    · left
      have : ds.drop i = [] := List.drop_eq_nil_of_le (by omega)
      rw [this] at el
      cases el
      exact ⟨w2 (by omega), k1 _ _ _ R2 t2⟩

/-- lo, lo + 1, .. below hi -/
def rangeD (lo hi : Int) : List D := (List.range (hi - lo).toNat).map fun (k : Nat) => D.int (lo + (k : Int))
noncomputable def rangeA : List D → Option (List D)
  | [.int j] => @ite _ (-(2 ^ 62) ≤ j ∧ j < 2 ^ 62) (Classical.propDecidable _) (some (rangeD 0 j)) none
  | _ => none
noncomputable def rangeB : List D → Option (List D)
  | [.int i, .int j] => @ite _ (-(2 ^ 62) ≤ i ∧ i < 2 ^ 62 ∧ -(2 ^ 62) ≤ j ∧ j < 2 ^ 62) (Classical.propDecidable _) (some (rangeD i j)) none
  | _ => none
noncomputable def rng1 (fa : FA) : FA := fun ρ => (fa ρ).bind rangeA
noncomputable def rng2 (fa : FA) : FA := fun ρ => (fa ρ).bind rangeB
def appendF (i : Nat) (f : FE) : FS := fun ρ => (f ρ).bind fun d => match ρ[i]? with
  | some (.ol ds) => if ds.length < sizeLine then some (.nx (ρ.set i (.ol (ds ++ [d])))) else none
  | _ => none
/-- a, b = x, y -/
def parF (i j : Nat) (fa : FA) : FS := fun ρ => (fa ρ).bind fun l => match l with
  | [d, d'] => some (.nx ((ρ.set i (.fr d)).set j (.fr d')))
  | _ => none
end

def spF (K : PySem.W.Frag) (n : Nat) (g : List D → Option D) : Sp := fun vs H Q _ => ∃ Hf ds d, Same Hf H ∧ HasL K Hf ds vs ∧ ds.length = n ∧ g ds = some d ∧ ∀ v H' Hf', Grows H Hf H' Hf' → Has K Hf' d v → Q v H'
def startR (n : Nat) (ds : List D) : Rho := ds.map Slot.fr ++ List.replicate (n - ds.length) Slot.no
def outD (o : Option Out) : Option D := match o with
  | some (.rt d) => some d
  | some (.nx _) => some .non
  | _ => none
/-- the function of a def with m names, n of them parameters -/
def denF (m : Nat) (F : FS) : List D → Option D := fun ds => outD (F (startR m ds))
theorem rep_start {K : PySem.W.Frag} {N : List Str} {H Hf : Hp} {ds : List D} {vs : List V} (sf : Same Hf H) (h : HasL K Hf ds vs) : Rep K H Hf (L2.start N vs) (startR N.length ds) H Hf where
  s0 := sameR
  sf := sf
  nf := fun b o e => .inl e
  f0 := sameR
  len := by unfold startR L2.start; simp [h.length]
  fr := fun i d e => by
    unfold startR at e
    unfold L2.start
    by_cases hi : i < ds.length
    · rw [List.getElem?_append_left (by simpa using hi)] at e
      rw [List.getElem?_map] at e
      cases e1 : ds[i]? with
      | none => rw [e1] at e; cases e
      | some d' =>
        rw [e1] at e; cases e
        obtain ⟨v, e2, e3⟩ := h.get e1
        refine ⟨v, ?_, e3⟩
        have hl := h.length
        rw [List.getElem?_append_left (by simp; omega), List.getElem?_map, e2]
        rfl
    · rw [List.getElem?_append_right (by simpa using hi), List.getElem?_replicate] at e
      split at e <;> cases e
  ow := fun i sl e o => by
    unfold startR at e
    by_cases hi : i < ds.length
    · rw [List.getElem?_append_left (by simpa using hi), List.getElem?_map] at e
      cases e1 : ds[i]? with
      | none => rw [e1] at e; cases e
      | some d' => rw [e1] at e; cases e; cases o
    · rw [List.getElem?_append_right (by simpa using hi), List.getElem?_replicate] at e
      split at e
      · cases e; cases o
      · cases e
  inj := fun i j sl sl' a e o e' o' _ _ => by
    unfold startR at e
    by_cases hi : i < ds.length
    · rw [List.getElem?_append_left (by simpa using hi), List.getElem?_map] at e
      cases e1 : ds[i]? with
      | none => rw [e1] at e; cases e
      | some d' => rw [e1] at e; cases e; cases o
    · rw [List.getElem?_append_right (by simpa using hi), List.getElem?_replicate] at e
      split at e
      · cases e; cases o
      · cases e
section
variable {P : Program} {w : World} {K : PySem.W.Frag} {mg : Str → Option Value} {base : Heap}
/-- a def by its body -/
theorem fn_den {x qual : Str} {st : Stmt} {f : Addr} {fd : FuncData} {N ps : List Str} {k m n : Nat} {F : FS} (hm : N.length = m) (hn : ps.length = n) (Fn : Fun K x qual st f fd) (S : FnScope N ps (defScope st))
    (body : ∀ (cdv : Value) (A : Around) (outer : List Env) (s : Shared) (H : Hp) (E : XK), Room k (A.deeper (envOfC qual (defScope st) s.heap.objs.size f cdv)) →
      DSs (cxOf CX0 P w K mg base N qual (defScope st) f cdv A outer s H E).nox (defBody st) F) :
    FnOk P w K mg base CX0 (k + 1) f fd ps (spF K n (denF m F)) := by
  subst hm hn
  refine Fn.ok S (fun vs H Q E h => ?_) (fun cdv A outer s H vs Q E hr h => ?_)
  · obtain ⟨Hf, ds, d, _, h1, h2, _⟩ := h
    rw [h1.length]; exact h2
  · obtain ⟨Hf, ds, d, sf, h1, h2, h3, q⟩ := h
    refine ⟨_, body cdv A outer s H E hr, ?_⟩
    unfold denF outD at h3
    have R := rep_start (N := N) sf h1
    have fin : ∀ (v : V) (σ' : St) (ρ' : Rho) (H' Hf' : Hp), Rep K H Hf σ' ρ' H' Hf' → Has K Hf' d v → Q v H' := fun v σ' ρ' H' Hf' R' hv => q v H' Hf' ⟨R'.s0, R'.f0, R'.sf, R'.nf⟩ hv
    split at h3
    · cases h3
      rename_i d e
      exact ⟨H, Hf, _, Hf, _, R, e, fun v σ' ρ' H' Hf' R' _ hv => fin v σ' ρ' H' Hf' R' hv⟩
    · cases h3
      rename_i ρ' e
      exact ⟨H, Hf, _, Hf, _, R, e, fun σ' H' Hf' R' _ => fin _ σ' ρ' H' Hf' R' (Has.non_iff.mpr rfl)⟩
    · cases h3
end
section
variable {X : Cx} {e : Expr} {es : List Expr} {fa : FA} {pos : Pos}
/-- f(..) -/
theorem d_call {CX : CXT} {k : Nat} {f : Addr} {fd : FuncData} {ps : List Str} {g : List D → Option D} {E : XK} {x : Str} {p : Pos} {n : Nat} (Fn : FnOk X.prog X.w X.K X.mg X.base CX k f fd ps (spF X.K n g)) (hr : Room k X.A) (hg : Gl X x) (hm : X.mg x = some (.ref f))
    (hk : PySem.W.keepIn X.K (.ref f) = true) (hb : Binds X.K fd ps []) (hx : Passes CX X E) (ha : DA X (e :: es) fa) (hn : ∀ ρ ds, fa ρ = some ds → ds.length = n)
    (hdb : (x == ("__debug__" : Str)) = false := by decide) (he : starEach (e :: es) X.env = (false, eval e X.env) :: starEach es X.env := by rfl) (hpl : (backTo pos (starEach es X.env)).any (·.1) = false := by rfl) :
    DE X (.Call (.Name x p) (e :: es) [] pos) (appF g fa) :=
  pe_imp (pe_call Fn hr hg hm hk hb .nil hx ha hdb he hpl) fun σ H Q ⟨H₀, Hf₀, ρ, Hf, d, R, q, k⟩ => by
    obtain ⟨ds, e1, e2⟩ := bindA_some q
    refine ⟨H₀, Hf₀, ρ, Hf, ds, R, e1, fun vs H1 Hf1 R1 s1 t1 h1 => ?_⟩
    show spF X.K n g (vs ++ []) H1 Q E
    rw [List.append_nil]
    exact ⟨Hf1, ds, d, R1.sf, h1, hn ρ ds e1, e2, fun v H2 Hf2 gr hv => k _ _ _ (R1.grows gr) (s1.trans gr.h) (t1.trans gr.f) hv⟩
end
theorem lenA0 : ∀ (ρ : Rho) (ds : List D), nilA ρ = some ds → ds.length = 0 := fun ρ ds h => by cases h; rfl
theorem lenAS {f : FE} {g : FA} {n : Nat} (h : ∀ (ρ : Rho) (ds : List D), g ρ = some ds → ds.length = n) : ∀ (ρ : Rho) (ds : List D), consA f g ρ = some ds → ds.length = n + 1 := fun ρ ds q => by
  obtain ⟨x, xs, _, e2, rfl⟩ := consA_some q
  simp [h ρ xs e2]
/-- the law itself -/
theorem law_sp {K : PySem.W.Frag} {g : List D → Option D} {H : Hp} {a : Addr} {ns : List Int} (hq : SqL K H a (ns.map V.int)) (hg : g [.lst (ns.map D.int)] = some (.bl true)) : spF K 1 g [.ref a] H (fun v _ => v = .bl true) fun _ _ _ => False :=
  ⟨H, [.lst (ns.map D.int)], .bl true, sameR, .cons (Has.lst_iff.mpr ⟨a, _, rfl, hq, HasL.ints ns⟩) .nil, rfl, hg, fun v H' Hf' _ hv => Has.bl_iff.mp hv⟩
end FL

set_option Elab.async false
set_option linter.all false
set_option maxRecDepth 100000
set_option maxHeartbeats 4000000
namespace FL
open PySem PySem.Spec PyProof.Rows L2

def tyN : D → String
  | .non => "NoneType"
  | .bl _ => "bool"
  | .int _ => "int"
  | .str _ => "str"
  | .tup _ => "tuple"
  | .lst _ => "list"
def subTy (t T : String) : Bool := t == T || (t == "bool" && T == "int")
def isTy (T : String) (d : D) : Option D := some (.bl (subTy (tyN d) T))
def TyOk (T : String) : Prop := ∀ (K : PySem.W.Frag) (d : D), PySem.W.kitOne K (.type (tyN d)) (.type T) = some (subTy (tyN d) T)
theorem ty_str : TyOk "str" := fun K d => by cases d <;> kernel_rfl
section
variable {X : Cx} {pins : List (Addr × Obj)} {σ : St} {H : Hp} {s : Shared} {A : Around} {E : Value → Shared → Prop} {Q : Value → Shared → Prop} {c : Value} {b : Bool}
theorem isinst_d {d : D} {v : V} {u : Value} (I : Inv X pins σ H s) (hd : Has X.K H d v) (rx : RelV v u) (e : PySem.W.kitOne X.K (.type (tyN d)) c = some b) (h : ∀ tk, Q (.bool b) { s with toks := tk }) :
    wpAny (model X.prog X.w) A (call (.builtin "isinstance") [u, c]) Q E s := by
  cases d with
  | non => rw [Has.non_iff] at hd; subst hd; cases rx; exact PySem.W.kia_one PySem.W.kitx_none I.kIn True.intro e (fun z => nomatch z) h
  | bl y => rw [Has.bl_iff] at hd; subst hd; cases rx; exact PySem.W.kia_one PySem.W.kitx_bool I.kIn True.intro e (fun z => nomatch z) h
  | int y => rw [Has.int_iff] at hd; subst hd; obtain ⟨t, rfl⟩ := rx; exact PySem.W.kia_one PySem.W.kitx_int I.kIn True.intro e (fun z => nomatch z) h
  | str y => rw [Has.str_iff] at hd; subst hd; obtain ⟨t, rfl⟩ := rx; exact PySem.W.kia_one PySem.W.kitx_str I.kIn True.intro e (fun z => nomatch z) h
  | tup ds =>
    obtain ⟨a, xs, rfl, q, _⟩ := Has.tup_iff.mp hd
    cases rx
    obtain ⟨its, _, ⟨o, h1, h2, _⟩, _⟩ := I.tuple q
    exact PySem.W.kia_one PySem.W.kitx_tuple I.kIn ⟨o, h1, h2⟩ e (fun z => nomatch z) h
  | lst ds =>
    obtain ⟨a, xs, rfl, q, _⟩ := Has.lst_iff.mp hd
    cases rx
    obtain ⟨its, _, ⟨o, n, h1, h2, _⟩, _⟩ := I.list q
    exact PySem.W.kia_one PySem.W.kitx_list I.kIn ⟨o, h1, h2⟩ e (fun z => nomatch z) h
end
section
variable {X : Cx} {e a b c : Expr} {es : List Expr} {f g h : FE} {fa ga : FA} {pos : Pos}
theorem call_isTy {T : String} (hT : TyOk T) : CallR X (.builtin "isinstance") (fun xs H Q => ∃ v d, xs = [v, .ty T] ∧ Has X.K H d v ∧ Q (.bl (subTy (tyN d) T)) H) := by
  intro pins s σ H xs us Q I r h
  obtain ⟨v, d, rfl, hd, q⟩ := h
  obtain ⟨u, w', rfl, rx, ry⟩ := vals2 r
  cases ry
  exact isinst_d I hd rx (hT X.K d) fun tk => ⟨.bl _, H, I.tok _, rfl, q⟩
theorem d_isTy {T : String} {x y : Str} {p p2 : Pos} (hT : TyOk T) (ha : DR X a f) (hg : Gl X x) (hm : X.mg x = none) (hg2 : Gl X y) (hm2 : X.mg y = none) (hv : bootBuiltins x = some (.builtin "isinstance") := by rfl) (hv2 : bootBuiltins y = some (.type T) := by rfl)
    (hn : x ≠ "__name__" := by decide) (hdb : (x == ("__debug__" : Str)) = false := by decide) (hn2 : y ≠ "__name__" := by decide) (hdb2 : (y == ("__debug__" : Str)) = false := by decide)
    (he : starEach [a, .Name y p2] X.env = (false, eval a X.env) :: starEach [.Name y p2] X.env := by rfl) (he2 : starEach [.Name y p2] X.env = (false, eval (.Name y p2) X.env) :: starEach [] X.env := by rfl) (hpl : (backTo pos (starEach [.Name y p2] X.env)).any (·.1) = false := by rfl) :
    DE X (.Call (.Name x p) [a, .Name y p2] [] pos) (bind1 (isTy T) f) :=
  pe_imp (pe_callB (call_isTy hT) hg hm hv (pa_cons ha (pa_cons (pe_bltn (v := .ty T) hg2 hm2 hv2 rfl hn2 hdb2) pa_nil he2) he) hn hdb he hpl) fun σ H Q ⟨H₀, Hf₀, ρ, Hf, d, R, q, k⟩ => by
    obtain ⟨x, e1, e2⟩ := bindV_some q
    cases e2
    exact ⟨H₀, Hf₀, ρ, Hf, x, R, e1, fun v H1 Hf1 R1 s1 t1 h1 => ⟨v, x, rfl, h1.full R1, k _ _ _ R1 s1 t1 (Has.bl_iff.mpr rfl)⟩⟩
end
/-- a def that keeps its promise, found by its name -/
structure HasFn (P : Program) (w : World) (K : PySem.W.Frag) (mg : Str → Option Value) (base : Heap) (k : Nat) (x : Str) (n : Nat) (g : List D → Option D) : Prop where
  ex : ∃ (f : Addr) (fd : FuncData) (ps : List Str), FnOk P w K mg base CX0 k f fd ps (spF K n g) ∧ mg x = some (.ref f) ∧ PySem.W.keepIn K (.ref f) = true ∧ Binds K fd ps []
theorem d_callH {X : Cx} {e : Expr} {es : List Expr} {fa : FA} {pos : Pos} {k : Nat} {g : List D → Option D} {x : Str} {p : Pos} {n : Nat} (Fn : HasFn X.prog X.w X.K X.mg X.base k x n g) (hr : Room k X.A) (hg : Gl X x) (ha : DA X (e :: es) fa) (hn : ∀ ρ ds, fa ρ = some ds → ds.length = n)
    (hdb : (x == ("__debug__" : Str)) = false := by decide) (he : starEach (e :: es) X.env = (false, eval e X.env) :: starEach es X.env := by rfl) (hpl : (backTo pos (starEach es X.env)).any (·.1) = false := by rfl) :
    DE X (.Call (.Name x p) (e :: es) [] pos) (appF g fa) := by
  obtain ⟨f, fd, ps, h1, h2, h3, h4⟩ := Fn.ex
  exact d_call h1 hr hg h2 h3 h4 pass0 ha hn hdb he hpl
end FL

set_option Elab.async false
set_option linter.all false
set_option maxRecDepth 100000
set_option maxHeartbeats 4000000
namespace FL
open PySem PySem.Spec PyProof.Rows L2
theorem mulOk_l {i j : Int} (h1 : -(2 ^ 64) < i) (h2 : i < 2 ^ 64) : MulB i j := .inl (by omega)
theorem mulOk_r {i j : Int} (h1 : -(2 ^ 64) < j) (h2 : j < 2 ^ 64) : MulB i j := .inr (.inl (by omega))
theorem mulD_ok {i j : Int} (h : MulB i j) : mulD (.int i) (.int j) = some (.int (i * j)) := by
  show (if MulB i j then _ else _) = _
  rw [if_pos h]
theorem modD_ok {i j : Int} (h : 0 < j) : modD (.int i) (.int j) = some (.int (i % j)) := by
  show (if 0 < j then _ else _) = _
  rw [if_pos h]
theorem fdivD_ok {i j : Int} (h : 0 < j) (h2 : j < 2 ^ 64) : fdivD (.int i) (.int j) = some (.int (i / j)) := by
  show (if DivB j then _ else _) = _
  rw [if_pos ⟨h, h2⟩]
theorem powD_ok {i j : Int} (h : PowB i j) : powD (.int i) (.int j) = some (.int (i ^ j.toNat)) := by
  show (if PowB i j then _ else _) = _
  rw [if_pos h]
theorem eqF_int {i j : Int} : eqF (.int i) (.int j) = some (.bl (decide (i = j))) := by unfold eqF; simp [dep, eqD]; rfl
theorem neF_int {i j : Int} : neF (.int i) (.int j) = some (.bl (!decide (i = j))) := by unfold neF; simp [dep, eqD]; rfl
end FL

set_option Elab.async false
set_option linter.all false
set_option maxRecDepth 100000
set_option maxHeartbeats 4000000
namespace FL
open PySem PySem.Spec PyProof.Rows L2

/-- a comprehension's names: own ones, those from outside (cells of the outer frame), no cells of its own -/
structure CompScope (osc : Scope) (scope : Scope) (own frees : List Str) : Prop where
  kind : scope.kind = .function
  nocell : ∀ y ∈ scope.names, y.2 ≠ .cell
  loc : ∀ y ∈ scope.names, y.2 = .local → scope.names.lookup y.1 = some .local
  free : ∀ y ∈ scope.names, y.2 = .free → osc.names.lookup y.1 = some .cell ∨ osc.names.lookup y.1 = some .free
  capt : ∀ x ∈ frees, (osc.names.lookup x = some .cell ∨ osc.names.lookup x = some .free) ∧ scope.names.lookup x = some .free
end FL

set_option Elab.async false
set_option linter.all false
set_option maxRecDepth 100000
set_option maxHeartbeats 4000000
namespace FL
open PySem PySem.Spec PyProof.Rows L2

def capS (ρ : Rho) (j : Nat) : Slot := match ρ[j]? with
  | some (.fr d) => .fr d
  | _ => .no
def compGo (γ : FG) (ft : FT) (f : FE) : List D → Rho → Option (List D)
  | [], _ => some []
  | d :: ds, ρ => (γ d ρ).bind fun ρ1 => (ft ρ1).bind fun b => if b = true then (f ρ1).bind fun y => (compGo γ ft f ds ρ1).bind fun ys => some (y :: ys) else compGo γ ft f ds ρ1
def compS (n : Nat) (caps : List Nat) (ρ : Rho) : Rho := List.replicate n .no ++ caps.map (capS ρ)
def compF (n : Nat) (caps : List Nat) (fi : FA) (γ : FG) (ft : FT) (f : FE) : FA := fun ρ => (fi ρ).bind fun ds => if ds.length ≤ sizeLine then compGo γ ft f ds (compS n caps ρ) else none
def ttF : FT := fun _ => some true
section
variable {X : Cx} {scope : Scope} {own frees : List Str} {caps : List Nat} {cl : List (Str × Addr)}
def NoOwn (ρ : Rho) : Prop := ∀ (i : Nat) (sl : Slot), ρ[i]? = some sl → sl.own = false
theorem NoOwn.set {ρ : Rho} (h : NoOwn ρ) (i : Nat) (d : D) : NoOwn (ρ.set i (.fr d)) := fun j sl e => by
  rw [List.getElem?_set] at e
  split at e
  · split at e
    · cases e; rfl
    · cases e
  · exact h j sl e
theorem Grows.trans {H Hf H1 Hf1 H2 Hf2 : Hp} (a : Grows H Hf H1 Hf1) (b : Grows H1 Hf1 H2 Hf2) : Grows H Hf H2 Hf2 :=
  ⟨a.h.trans b.h, a.f.trans b.f, b.fh, fun c o e => by
    rcases b.new c o e with q | q | q
    · exact a.new c o q
    · exact .inr (.inl (a.h.free q))
    · exact .inr (.inr q)⟩
end
end FL

set_option Elab.async false
set_option linter.all false
set_option maxRecDepth 100000
set_option maxHeartbeats 4000000
namespace FL
open PySem PySem.Spec PyProof.Rows L2

section
variable {prog : Program} {w : World} {A : Around} {E : Value → Shared → Prop} {s : Shared}
end
theorem FpOk.more {X : Cx} {pins : List (Addr × Obj)} {H : Hp} {b c : Addr} {h : Heap} (f : FpOk X pins H b) (hne : b ≠ c) : FpOk X (pins ++ pinsAt [c] h) H b := by
  obtain ⟨f0, f1, f2, f3, f4, f5⟩ := f
  refine ⟨f0, f1, f2, f3, f4, fun p hp z => ?_⟩
  rcases List.mem_append.mp hp with q | q
  · exact f5 p (List.mem_append_left _ q) z
  · rcases List.mem_append.mp q with q | q
    · exact f5 p (List.mem_append_right _ q) z
    · have := (of_pinsAt q).1
      have e : p.1 = c := by simpa using this
      exact hne (z ▸ e)
end FL

set_option Elab.async false
set_option linter.all false
set_option maxRecDepth 100000
set_option maxHeartbeats 4000000
namespace FL
open PySem PySem.Spec PyProof.Rows L2

theorem turned1 {X : Cx} {pins : List (Addr × Obj)} {σ : St} {H : Hp} {s : Shared} {h' : Heap} {t' : Nat} {b : Addr} (I : Inv X pins σ H s) (hs : Heap.SameBut b s.heap h') (f : FpOk X pins H b) : Inv X pins σ H { s with heap := h', toks := t' } := by
  obtain ⟨f0, f1, f2, f3, f4, f5⟩ := f
  exact I.turned (t' := t') (fun c o hb q => (hs.2 c hb).trans q) f0 f1 f3 f4 f5

section
variable {P : Program} {w : World} {K : PySem.W.Frag} {J1 J2 : It} {fp1 fp2 : List Addr} {i1 i2 z TI TO : Addr} {tn1 tn2 : Nat → Heap → Prop}
end
end FL

set_option Elab.async false
set_option linter.all false
set_option maxRecDepth 100000
set_option maxHeartbeats 4000000
namespace FL
open PySem PySem.Spec PyProof.Rows L2

/-- a list or a tuple, and the record that walks it -/
def SqH (b : Bool) (h : Heap) (a : Addr) (its : Array Value) : Prop := if b = true then h.IsList a its else h.IsTuple a its
theorem SqH.push {b : Bool} {h : Heap} {a : Addr} {its : Array Value} (q : SqH b h a its) (o : Obj) : SqH b (h.push o) a its := by
  cases b with
  | true => exact Heap.IsList.push q o
  | false => exact Heap.IsTuple.push q o
section
variable {prog : Program} {w : World} {A : Around} {E : Value → Shared → Prop} {s : Shared}
end
end FL

set_option Elab.async false
set_option linter.all false
set_option maxRecDepth 100000
set_option maxHeartbeats 4000000
namespace FL
open PySem PySem.Spec PyProof.Rows L2

theorem walks_list {K : PySem.W.Frag} {Hf : Hp} {a : Addr} {xs : List V} {ds : List D} (qa : SqL K Hf a xs) (la : HasL K Hf ds xs) : Walks K Hf (Itl K a) ds := fun H2 Hf2 t2 sf2 i => by
  refine ⟨fun d hd => ?_, fun hle => ⟨xs, sf2.seq (t2.seq qa), by rw [la.length]; exact hle⟩⟩
  obtain ⟨v, e3, e4⟩ := la.get hd
  have sq : SqL K H2 a xs := sf2.seq (t2.seq qa)
  refine ⟨⟨xs, v, sq, e3⟩, fun x H3 hy => ?_⟩
  obtain ⟨rfl, hy⟩ := hy
  have := hy xs sq
  rw [e3] at this
  cases this
  exact ⟨Hf2, Grows.refl sf2, e4.mono t2⟩
theorem walks_tup {K : PySem.W.Frag} {Hf : Hp} {a : Addr} {xs : List V} {ds : List D} (qa : SqT K Hf a xs) (la : HasL K Hf ds xs) : Walks K Hf (Itt K a) ds := fun H2 Hf2 t2 sf2 i => by
  refine ⟨fun d hd => ?_, fun hle => ⟨xs, sameT sf2 (sameT t2 qa), by rw [la.length]; exact hle⟩⟩
  obtain ⟨v, e3, e4⟩ := la.get hd
  have sq : SqT K H2 a xs := sameT sf2 (sameT t2 qa)
  refine ⟨⟨xs, v, sq, e3⟩, fun x H3 hy => ?_⟩
  obtain ⟨rfl, hy⟩ := hy
  have := hy xs sq
  rw [e3] at this
  cases this
  exact ⟨Hf2, Grows.refl sf2, e4.mono t2⟩
theorem Grows.lay {H Hf : Hp} {p : Addr} {o : HO} (s : Same Hf H) (hp : H p = none) : Grows H Hf (upd H p o) (upd Hf p o) := by
  have hfp : Hf p = none := s.free hp
  refine ⟨same_upd hp, same_upd hfp, fun b u e => ?_, fun b u e => ?_⟩
  · by_cases hb : b = p
    · subst hb; rw [upd_same] at e ⊢; exact e
    · rw [upd_ne hb] at e ⊢; exact s b u e
  · by_cases hb : b = p
    · subst hb; exact .inr (.inl hp)
    · rw [upd_ne hb] at e; exact .inl e
def enumD (ds : List D) : List D := ds.zipIdx.map fun p => .tup [.int (p.2 : Int), p.1]
def zipD (xs ys : List D) : List D := (xs.zip ys).map fun p => .tup [p.1, p.2]
section
variable {X : Cx} {e e1 e2 : Expr} {f f1 f2 : FE} {pos : Pos} {elts : List Expr} {kx : Nat} {tp : Pos}
def seqOf : D → Option (List D)
  | .lst ds => some ds
  | .tup ds => some ds
  | _ => none
def seqItems (f : FE) : FA := fun ρ => (f ρ).bind seqOf
def itemsE (f : FE) : FA := fun ρ => (seqItems f ρ).bind fun ds => some (enumD ds)
def itemsZ (f g : FE) : FA := fun ρ => (seqItems f ρ).bind fun xs => (seqItems g ρ).bind fun ys => some (zipD xs ys)
end
end FL

set_option Elab.async false
set_option linter.all false
set_option maxRecDepth 100000
set_option maxHeartbeats 4000000
namespace FL
open PySem PySem.Spec PyProof.Rows L2

section
variable {prog : Program} {w : World} {A : Around} {E : Value → Shared → Prop} {s : Shared}
/-- t[lo:hi], the whole of it -/
theorem getItem_tuple_all {t sl : Addr} {items : Array Value} {vl vu : Value} {lo hi : Option Int} {Q : Value → Shared → Prop} (ht : IsTup s.heap t items) (hs : s.heap.IsSliceOf sl vl vu .none) (pl : IsPart vl lo) (pu : IsPart vu hi)
    (hw : HT.sIx items.size 0 lo = 0 ∧ HT.sIx items.size items.size hi = items.size) (h : Q (.ref t) s) : wpAny (model prog w) A (getItem (.ref t) (.ref sl)) Q E s := by
  obtain ⟨os, hos, hcs, hds⟩ := id hs
  have hTs : s.TypeIs (.ref sl) "slice" := ⟨os, hos, hcs⟩
  unfold getItem
  try with_reducible refine wpAny_holding ?_
  first | refine wpAny_bind (wpAny_pure ?_) | skip
  refine wpAny_bind (wpAny_sequenceKey ht.typeIs (by decide) ?_)
  refine wpAny_bind (wpAny_callSpecial?_slot (name := Str.ofString "__getitem__") ht.typeIs PyProof.Rows.slot_tuple_getitem
    (wpAny_call_entry PyProof.Rows.slot_tuple_getitem ht.typeIs entry_tuple_getitem ?_ (args_tuple_getitem _ _)))
  show wpAny _ _ (Builtin.Tuple.tupleItemsOf (.ref t) >>= _) _ _ s
  refine wpAny_bind (tupleItemsOf_ ht ?_)
  refine wpAny_bind (wpAny_typeOf hTs ?_)
  rw [if_pos (by decide)]
  refine wpAny_bind (HT.sliceApplied_gen hs pl pu ?_)
  rw [hw.1, hw.2]
  show wpAny _ _ (if (((0 : Nat) : Int) == 0 && (1 : Int) == 1 && (items.size - 0) == items.size) = true then _ else _) _ _ s
  rw [if_pos (by simp)]
  show wpAny _ _ (Builtin.Tuple.tupleIsExact (.ref t) >>= _) _ _ s
  unfold Builtin.Tuple.tupleIsExact
  refine wpAny_bind (wpAny_bind (wpAny_typeOf ht.typeIs (wpAny_pure ?_)))
  rw [if_pos (by decide)]
  refine wpAny_bind (wpAny_rule ?_)
  exact wpAny_pure ⟨_, rfl, wpAny_pure h⟩
open PySem.AutoSeq1 (wpAny_loadPart') in
theorem tuple_addW0 (l b : Addr) (items2 : Array Value) (n n2 : Nat) (dd dd2 : Option Addr) (sl sl2 : Array (Option Value)) :
    Meets (Builtin.«tuple.__add__» ⟨[.ref l, .ref b], []⟩) (fun _ R s => s.heap.get? l = some { cls := .type "tuple", dict := dd, data := .seq #[] n, slots := sl } ∧ s.heap.get? b = some { cls := .type "tuple", dict := dd2, data := .seq items2 n2, slots := sl2 } ∧ R (.ok (.ret (.ref b))) s) :=
  .of_wp fun prog w A R s h => by
    obtain ⟨hp, g, d, tk, os⟩ := s; obtain ⟨hl, hb, h⟩ := h
    have f2 := AutoSeq1.sub_tuple_tuple
    wp_walk using wpAny_loadPart' hl, wpAny_loadPart' hb
    exact ⟨_, rfl, h⟩
/-- () + u -/
theorem cat_tup0 {t b : Addr} {ws : List Value} {Q : Value → Shared → Prop} (ht : IsTup s.heap t #[]) (hb : IsTup s.heap b ws.toArray) (h : Q (.ref b) s) : wpAny (model prog w) A (binaryOp .Add (.ref t) (.ref b)) Q E s := by
  obtain ⟨⟨cls, dd, data, sl⟩, ho, hc, n, hd⟩ := id ht
  obtain ⟨⟨cls2, dd2, data2, sl2⟩, ho2, hc2, n2, hd2⟩ := id hb
  simp only at hc hd hc2 hd2
  subst hc hd hc2 hd2
  exact concat_meets ⟨_, ho, rfl⟩ ⟨_, ho2, rfl⟩ noFill_tuple_add seq_tuple_add PySem.F.slot_tuple_add PySem.F.entry_tuple_add (PySem.F.args_tuple_add_2 _ _) (tuple_addW0 t b ws.toArray n n2 dd dd2 sl sl2) ⟨ho, ho2, h⟩
end
end FL

set_option Elab.async false
set_option linter.all false
set_option maxRecDepth 100000
set_option maxHeartbeats 4000000
namespace FL
open PySem PySem.Spec PyProof.Rows L2

section
variable {X : Cx}
def rCatTG (K : PySem.W.Frag) : R2 := fun x y H Q => ∃ a b xs ys, x = .ref a ∧ y = .ref b ∧ SqT K H a xs ∧ SqT K H b ys ∧ xs.length + ys.length ≤ sizeLine ∧
  (xs = [] → Q (.ref b) H) ∧ (xs ≠ [] → ys = [] → Q (.ref a) H) ∧ (xs ≠ [] → ys ≠ [] → ∀ p, H p = none → Q (.ref p) (upd H p (.tup (xs ++ ys))))
theorem op_catTG : OpR X (binaryOp .Add) (rCatTG X.K) := by
  intro pins s σ H x y v u Q I rx ry h
  obtain ⟨a, b, xs, ys, rfl, rfl, ha, hb, hz, q0, q1, q2⟩ := h
  by_cases hx : xs = []
  · subst hx
    cases rx
    cases ry
    obtain ⟨its, r1, p1, _⟩ := I.tuple ha
    obtain ⟨its2, r2, p2, _⟩ := I.tuple hb
    cases r1
    exact cat_tup0 p1 p2 ⟨.ref b, H, I, rfl, q0 rfl⟩
  · exact op_catT pins s σ H _ _ v u Q I rx ry ⟨a, b, xs, ys, rfl, rfl, ha, hb, hx, hz, q1 hx, q2 hx⟩
def rCatLG (K : PySem.W.Frag) : R2 := fun x y H Q => ∃ a b xs ys, x = .ref a ∧ y = .ref b ∧ SqL K H a xs ∧ SqL K H b ys ∧ xs.length + ys.length ≤ sizeLine ∧ ∀ p, H p = none → Q (.ref p) (upd H p (.lst (xs ++ ys)))
theorem op_catLG : OpR X (binaryOp .Add) (rCatLG X.K) := by
  intro pins s σ H x y v u Q I rx ry h
  obtain ⟨a, b, xs, ys, rfl, rfl, ha, hb, hz, q⟩ := h
  cases rx
  cases ry
  obtain ⟨its, r1, p1, _⟩ := I.list ha
  obtain ⟨its2, r2, p2, _⟩ := I.list hb
  obtain ⟨⟨cls, dd, data, sl⟩, ho, hc, n, hd⟩ := id p1.isList
  obtain ⟨⟨cls2, dd2, data2, sl2⟩, ho2, hc2, n2, hd2⟩ := id p2.isList
  simp only at hc hd hc2 hd2
  subst hc hd hc2 hd2
  have e : its.toArray ++ its2.toArray = (its ++ its2).toArray := by simp
  have hsz : its.toArray.size + its2.toArray.size ≤ sizeLine := by
    rw [List.size_toArray, List.size_toArray, ← r1.length, ← r2.length]; exact hz
  refine concat_meets ⟨_, ho, rfl⟩ ⟨_, ho2, rfl⟩ noFill_list_add seq_list_add PySem.F.slot_list_add PySem.F.entry_list_add (PySem.F.args_list_add_2 _ _) (list_addW a b its.toArray its2.toArray n n2 dd dd2 sl sl2 hsz) ⟨ho, ho2, ?_⟩
  rw [e]
  exact ⟨.ref _, _, I.lnew (t' := s.toks) (r1.append r2) (by rw [List.length_append]; exact hz), rfl, q _ I.fresh⟩
def rAddX (K : PySem.W.Frag) : R2 := fun x y H Q => rI0 (fun i j => .int (i + j)) x y H Q ∨ (∃ i j, x = .str i ∧ y = .str j ∧ i.length + j.length ≤ sizeLine ∧ Q (.str (i ++ j)) H) ∨ rCatTG K x y H Q ∨ rCatLG K x y H Q
theorem op_addX : OpR X (binaryOp .Add) (rAddX X.K) := op_add.or (op_add_str.or (op_catTG.or op_catLG))
def addX : D → D → Option D
  | .int i, .int j => some (.int (i + j))
  | .str x, .str y => if x.length + y.length ≤ sizeLine then some (.str (x ++ y)) else none
  | .tup xs, .tup ys => if xs.length + ys.length ≤ sizeLine then some (.tup (xs ++ ys)) else none
  | .lst xs, .lst ys => if xs.length + ys.length ≤ sizeLine then some (.lst (xs ++ ys)) else none
  | _, _ => none
theorem HasL.nil_of {K : PySem.W.Frag} {H : Hp} {ds : List D} {xs : List V} (h : HasL K H ds xs) : xs = [] ↔ ds = [] := by
  have := h.length
  constructor
  · intro e; subst e; exact List.eq_nil_of_length_eq_zero this.symm
  · intro e; subst e; exact List.eq_nil_of_length_eq_zero this
/-- a tuple read is frozen -/
theorem HasR.tupF {K : PySem.W.Frag} {Hf : Hp} {σ : St} {ρ : Rho} {ds : List D} {v : V} (h : HasR K Hf σ ρ (.tup ds) v) : Has K Hf (.tup ds) v := by
  rcases h with h | ⟨_, _, e, _⟩
  · exact h
  · cases e
theorem opD_addX : OpD X (rAddX X.K) addX := by
  intro σ ρ H₀ Hf₀ H Hf x y dx dy d Q R hx hy hφ k
  unfold addX at hφ
  split at hφ
  · cases hφ
    exact .inl ⟨_, _, hx.int, hy.int, k _ _ _ R sameR sameR (Has.int_iff.mpr rfl)⟩
  · split at hφ
    · cases hφ
      exact .inr (.inl ⟨_, _, hx.str, hy.str, by assumption, k _ _ _ R sameR sameR (Has.str_iff.mpr rfl)⟩)
    · cases hφ
  · split at hφ
    · cases hφ
      rename_i xs ys hz
      obtain ⟨a, vs, rfl, qa, la⟩ := hx.tup R
      obtain ⟨b, ws, rfl, qb, lb⟩ := hy.tup R
      refine .inr (.inr (.inl ⟨a, b, vs, ws, rfl, rfl, qa, qb, by rw [la.length, lb.length]; exact hz, fun e => ?_, fun _ e => ?_, fun _ _ p hp => ?_⟩))
      · cases la.nil_of.mp e
        exact k _ _ _ R sameR sameR (by rw [List.nil_append]; exact hy.tupF)
      · cases lb.nil_of.mp e
        exact k _ _ _ R sameR sameR (by rw [List.append_nil]; exact hx.tupF)
      · have sm := same_upd (o := .tup (vs ++ ws)) (R.sf.free hp)
        exact k _ _ _ (R.lay hp) (same_upd hp) sm (Has.tup_iff.mpr ⟨p, _, rfl, SqT.of upd_same, (la.append lb).mono sm⟩)
    · cases hφ
  · split at hφ
    · cases hφ
      rename_i xs ys hz
      obtain ⟨a, vs, rfl, qa, la⟩ := hx.lst R
      obtain ⟨b, ws, rfl, qb, lb⟩ := hy.lst R
      refine .inr (.inr (.inr ⟨a, b, vs, ws, rfl, rfl, qa, qb, by rw [la.length, lb.length]; exact hz, fun p hp => ?_⟩))
      have sm := same_upd (o := .lst (vs ++ ws)) (R.sf.free hp)
      exact k _ _ _ (R.lay hp) (same_upd hp) sm (Has.lst_iff.mpr ⟨p, _, rfl, SqL.of upd_same, (la.append lb).mono sm⟩)
    · cases hφ
  · cases hφ
variable {a b c e : Expr} {f g h : FE} {pos p2 : Pos}
theorem d_addX (ha : DR X a f) (hb : DR X b g) : DE X (.BinOp a .Add b pos) (bind2 addX f g) := d_op op_addX opD_addX ha hb

abbrev FP := Rho → Option (Option Int)
def noP : FP := fun _ => some none
def exP (f : FE) : FP := fun ρ => (f ρ).bind fun | .int i => some (some i) | _ => none
def tP (K : PySem.W.Frag) (f : FP) : TO := fun σ H Q => ∃ H₀ Hf₀ ρ Hf o, Rep K H₀ Hf₀ σ ρ H Hf ∧ f ρ = some o ∧ ∀ H' Hf', Rep K H₀ Hf₀ σ ρ H' Hf' → Same H H' → Same Hf Hf' → Q o H'
def DP (X : Cx) (e : Option Expr) (f : FP) : Prop := PO X e (tP X.K f)
theorem po_imp {e : Option Expr} {t t' : TO} (h : PO X e t) (i : ∀ σ H Q, t' σ H Q → t σ H Q) : PO X e t' := fun pins s σ H Q I hw => h pins s σ H Q I (i _ _ _ hw)
theorem dp_no : DP X none noP := po_imp po_none fun σ H Q ⟨H₀, Hf₀, ρ, Hf, d, R, q, k⟩ => by cases q; exact k _ _ R sameR sameR
theorem dp_ex (h : DR X e f) : DP X (some e) (exP f) := po_imp (po_some h) fun σ H Q ⟨H₀, Hf₀, ρ, Hf, d, R, q, k⟩ => by
  obtain ⟨x, e1, e2⟩ := bindV_some q
  cases x <;> try cases e2
  exact ⟨H₀, Hf₀, ρ, Hf, _, R, e1, fun v H1 Hf1 R1 s1 t1 h1 => ⟨_, h1.int, k _ _ R1 s1 t1⟩⟩
def cutL {α : Type} (xs : List α) (lo hi : Option Int) : List α := (xs.drop (HT.sIx xs.length 0 lo)).take (HT.sIx xs.length xs.length hi - HT.sIx xs.length 0 lo)
theorem HasL.cut {K : PySem.W.Frag} {H : Hp} {ds : List D} {xs : List V} (h : HasL K H ds xs) (lo hi : Option Int) : HasL K H (cutL ds lo hi) (cutV xs lo hi) := by
  unfold cutL cutV
  rw [h.length]
  exact (h.drop _).take _
def rSlTG (K : PySem.W.Frag) : V → Option Int → Option Int → Hp → VK → Prop := fun x lo hi H Q => ∃ a xs, x = .ref a ∧ SqT K H a xs ∧
  ((HT.sIx xs.length 0 lo = 0 ∧ HT.sIx xs.length xs.length hi = xs.length) → Q (.ref a) H) ∧ (¬ (HT.sIx xs.length 0 lo = 0 ∧ HT.sIx xs.length xs.length hi = xs.length) → ∀ p, H p = none → Q (.ref p) (upd H p (.tup (cutV xs lo hi))))
theorem sl_tupG : SlR X (rSlTG X.K) := by
  intro pins s σ H x v vl vu lo hi sl Q I rx hs pl pu h
  obtain ⟨a, xs, rfl, hx, q1, q2⟩ := h
  by_cases hw : HT.sIx xs.length 0 lo = 0 ∧ HT.sIx xs.length xs.length hi = xs.length
  · cases rx
    obtain ⟨its, r, ht, hz⟩ := I.tuple hx
    have hlen : its.toArray.size = xs.length := by rw [List.size_toArray]; exact r.length.symm
    refine ⟨"tuple", _, PyProof.Rows.slot_tuple_getitem.lookup, ht.typeIs, ?_⟩
    exact getItem_tuple_all ht hs pl pu (by rw [hlen]; exact hw) ⟨.ref a, H, I, rfl, q1 hw⟩
  · exact sl_tup pins s σ H _ v vl vu lo hi sl Q I rx hs pl pu ⟨a, xs, rfl, hx, hw, q2 hw⟩
def sliceF (f : FE) (l u : FP) : FE := fun ρ => (f ρ).bind fun x => (l ρ).bind fun lo => (u ρ).bind fun hi => match x with
  | .tup ds => some (.tup (cutL ds lo hi))
  | .lst ds => some (.lst (cutL ds lo hi))
  | _ => none
theorem cut_whole {ds : List D} {lo hi : Option Int} (h : HT.sIx ds.length 0 lo = 0 ∧ HT.sIx ds.length ds.length hi = ds.length) : cutL ds lo hi = ds := by
  unfold cutL
  rw [h.1, h.2]
  simp
section
variable {X : Cx} {a b c e st : Expr} {f g h fs : FE} {pos p2 : Pos}
def revF (f fs : FE) : FE := fun ρ => (f ρ).bind fun x => (fs ρ).bind fun y => match x, y with
  | .tup ds, .int i => if i = -1 then some (.tup ds.reverse) else none
  | .lst ds, .int i => if i = -1 then some (.lst ds.reverse) else none
  | _, _ => none
def revN (f fs : FE) : FA := fun ρ => (f ρ).bind fun x => (fs ρ).bind fun y => match x, y with
  | .lst ds, .int i => if i = -1 then some ds.reverse else none
  | _, _ => none
theorem bind2_some {α : Type} {f g : FE} {k : D → D → Option α} {ρ : Rho} {r : α} (h : ((f ρ).bind fun x => (g ρ).bind fun y => k x y) = some r) : ∃ x y, f ρ = some x ∧ g ρ = some y ∧ k x y = some r := by
  obtain ⟨x, e1, e2⟩ := bindV_some h
  obtain ⟨y, e3, e4⟩ := bindV_some e2
  exact ⟨x, y, e1, e3, e4⟩
def tupleD : List D → Option D
  | [.lst ds] => some (.tup ds)
  | [.tup ds] => some (.tup ds)
  | _ => none
def listN (fa : FA) : FA := fun ρ => (fa ρ).bind fun l => match l with
  | [.lst ds] => some ds
  | [.tup ds] => some ds
  | _ => none
end
end
end FL

set_option Elab.async false
set_option linter.all false
set_option maxRecDepth 100000
set_option maxHeartbeats 4000000
namespace FL
open PySem PySem.Spec PyProof.Rows L2

theorem relV_inj {y y' : V} {u : Value} {K : PySem.W.Frag} {H : Hp} {d d' : D} (h : Has K H d y) (h' : Has K H d' y') (r : RelV y u) (r' : RelV y' u) : y = y' := by
  cases d with
  | non =>
    cases Has.non_iff.mp h
    cases r
    cases d' with
    | non => cases Has.non_iff.mp h'; rfl
    | bl _ => cases Has.bl_iff.mp h'; cases r'
    | int _ => cases Has.int_iff.mp h'; obtain ⟨t, e⟩ := r'; cases e
    | str _ => cases Has.str_iff.mp h'; obtain ⟨t, e⟩ := r'; cases e
    | tup _ => obtain ⟨_, _, rfl, _⟩ := Has.tup_iff.mp h'; cases r'
    | lst _ => obtain ⟨_, _, rfl, _⟩ := Has.lst_iff.mp h'; cases r'
  | bl b =>
    cases Has.bl_iff.mp h
    cases r
    cases d' with
    | non => cases Has.non_iff.mp h'; cases r'
    | bl _ => cases Has.bl_iff.mp h'; cases r'; rfl
    | int _ => cases Has.int_iff.mp h'; obtain ⟨t, e⟩ := r'; cases e
    | str _ => cases Has.str_iff.mp h'; obtain ⟨t, e⟩ := r'; cases e
    | tup _ => obtain ⟨_, _, rfl, _⟩ := Has.tup_iff.mp h'; cases r'
    | lst _ => obtain ⟨_, _, rfl, _⟩ := Has.lst_iff.mp h'; cases r'
  | int b =>
    cases Has.int_iff.mp h
    obtain ⟨t0, rfl⟩ := r
    cases d' with
    | non => cases Has.non_iff.mp h'; cases r'
    | bl _ => cases Has.bl_iff.mp h'; cases r'
    | int _ => cases Has.int_iff.mp h'; obtain ⟨t, e⟩ := r'; cases e; rfl
    | str _ => cases Has.str_iff.mp h'; obtain ⟨t, e⟩ := r'; cases e
    | tup _ => obtain ⟨_, _, rfl, _⟩ := Has.tup_iff.mp h'; cases r'
    | lst _ => obtain ⟨_, _, rfl, _⟩ := Has.lst_iff.mp h'; cases r'
  | str b =>
    cases Has.str_iff.mp h
    obtain ⟨t0, rfl⟩ := r
    cases d' with
    | non => cases Has.non_iff.mp h'; cases r'
    | bl _ => cases Has.bl_iff.mp h'; cases r'
    | int _ => cases Has.int_iff.mp h'; obtain ⟨t, e⟩ := r'; cases e
    | str _ => cases Has.str_iff.mp h'; obtain ⟨t, e⟩ := r'; cases e; rfl
    | tup _ => obtain ⟨_, _, rfl, _⟩ := Has.tup_iff.mp h'; cases r'
    | lst _ => obtain ⟨_, _, rfl, _⟩ := Has.lst_iff.mp h'; cases r'
  | tup ds =>
    obtain ⟨a, _, rfl, _⟩ := Has.tup_iff.mp h
    cases r
    cases d' with
    | non => cases Has.non_iff.mp h'; cases r'
    | bl _ => cases Has.bl_iff.mp h'; cases r'
    | int _ => cases Has.int_iff.mp h'; obtain ⟨t, e⟩ := r'; cases e
    | str _ => cases Has.str_iff.mp h'; obtain ⟨t, e⟩ := r'; cases e
    | tup _ => obtain ⟨_, _, rfl, _⟩ := Has.tup_iff.mp h'; cases r'; rfl
    | lst _ => obtain ⟨_, _, rfl, _⟩ := Has.lst_iff.mp h'; cases r'; rfl
  | lst ds =>
    obtain ⟨a, _, rfl, _⟩ := Has.lst_iff.mp h
    cases r
    cases d' with
    | non => cases Has.non_iff.mp h'; cases r'
    | bl _ => cases Has.bl_iff.mp h'; cases r'
    | int _ => cases Has.int_iff.mp h'; obtain ⟨t, e⟩ := r'; cases e
    | str _ => cases Has.str_iff.mp h'; obtain ⟨t, e⟩ := r'; cases e
    | tup _ => obtain ⟨_, _, rfl, _⟩ := Has.tup_iff.mp h'; cases r'; rfl
    | lst _ => obtain ⟨_, _, rfl, _⟩ := Has.lst_iff.mp h'; cases r'; rfl
open Classical in
/-- an item's answer, read off its datum -/
noncomputable def ansU (K : PySem.W.Frag) (H : Hp) (dx : D) (u : Value) : Bool := decide (∃ d y, RelV y u ∧ Has K H d y ∧ eqD d dx = true)
section
variable {X : Cx} {pins : List (Addr × Obj)} {σ : St} {H : Hp} {s : Shared}
open Classical in
theorem ansU_of (I : Inv X pins σ H s) {dx d : D} {y : V} {u : Value} (r : RelV y u) (h : Has X.K H d y) : ansU X.K H dx u = eqD d dx := by
  unfold ansU
  cases hq : eqD d dx with
  | true => exact decide_eq_true ⟨d, y, r, h, hq⟩
  | false =>
    refine decide_eq_false ?_
    rintro ⟨d', y', r', h', e'⟩
    cases relV_inj h' h r' r
    cases Has.inj I h' h
    rw [hq] at e'; cases e'
theorem any_ansU (I : Inv X pins σ H s) {dx : D} : ∀ {ds : List D} {xs : List V} {us : List Value}, HasL X.K H ds xs → Vals xs us → us.any (ansU X.K H dx) = ds.any fun d => eqD d dx
  | [], _, _, h, r => by rw [HasL.nil_iff] at h; subst h; cases r; rfl
  | d :: ds, _, _, h, r => by
    obtain ⟨x, xr, rfl, h1, h2⟩ := HasL.cons_iff.mp h
    cases r with
    | cons r rr => rw [List.any_cons, List.any_cons, ansU_of I r h1, any_ansU I h2 rr]
theorem mem_ansU (I : Inv X pins σ H s) {A : Around} {dx : D} {x : V} {v : Value} (hx : Has X.K H dx x) (rx : RelV x v) : ∀ {ds : List D} {xs : List V} {us : List Value}, HasL X.K H ds xs → Vals xs us → A.units + depL ds < cLine → ∀ u ∈ us, SeqAt.EqAt A s u v (ansU X.K H dx u)
  | [], _, _, h, r, _ => by rw [HasL.nil_iff] at h; subst h; cases r; intro u hu; cases hu
  | d :: ds, _, _, h, r, hu => by
    obtain ⟨y, yr, rfl, h1, h2⟩ := HasL.cons_iff.mp h
    unfold depL at hu
    cases r with
    | cons r rr =>
      intro u' hu'
      rcases List.mem_cons.mp hu' with rfl | hm
      · rw [ansU_of I r h1]
        exact eqAt_of I d A dx y x _ v h1 hx r rx (by have := Nat.le_max_left (dep d) (depL ds); omega)
      · exact mem_ansU I hx rx h2 rr (by have := Nat.le_max_right (dep d) (depL ds); omega) u' hm
end
section
variable {X : Cx} {e a b c : Expr} {f g h : FE} {pos p2 : Pos} {kk : Nat}
/-- x in s for texts -/
def inS (x z : Str) : Bool := !(Builtin.Str.occurrences z x 0 z.length 1).isEmpty
def rInD (K : PySem.W.Frag) (neg : Bool) : R2 := fun x y H Q => (∃ p ds xs dx, y = .ref p ∧ (SqL K H p xs ∨ SqT K H p xs) ∧ HasL K H ds xs ∧ Has K H dx x ∧ depL ds ≤ 100 ∧ Q (.bl (xor neg (ds.any fun d => eqD d dx))) H) ∨
  (∃ i j, x = .str i ∧ y = .str j ∧ Q (.bl (xor neg (inS i j))) H)
theorem op_inD (hr : Room kk X.A) : OpR X (compareOp .In) (rInD X.K false) := by
  intro pins s σ H x y v u Q I rx ry h
  rcases h with ⟨p, ds, xs, dx, rfl, hq, hl, hx, hd, q⟩ | h
  · cases ry
    have hu : X.A.in1.units + depL ds < cLine := by show X.A.units + 1 + depL ds < cLine; have := hr.un; omega
    simp only [Bool.false_xor] at q
    rcases hq with hq | hq
    · obtain ⟨its, r, pl, hz⟩ := I.list hq
      refine SeqAt.in_listAt (ansU X.K H dx) pl.isList (fun w hw => mem_ansU I hx rx hl r hu w (by simpa using hw)) ⟨.bl _, H, I, rfl, ?_⟩
      rw [show its.toArray.any (ansU X.K H dx) = its.any (ansU X.K H dx) by simp, any_ansU I hl r]
      exact q
    · obtain ⟨its, r, pl, hz⟩ := I.tuple hq
      refine SeqAt.in_tupleAt (ansU X.K H dx) pl (fun w hw => mem_ansU I hx rx hl r hu w (by simpa using hw)) ⟨.bl _, H, I, rfl, ?_⟩
      rw [show its.toArray.any (ansU X.K H dx) = its.any (ansU X.K H dx) by simp, any_ansU I hl r]
      exact q
  · obtain ⟨i, j, e1, e2, q⟩ := h
    exact op_in_str pins s σ H x y v u Q I rx ry ⟨i, j, e1, e2, by simpa [inS] using q⟩
theorem op_notInD (hr : Room kk X.A) : OpR X (compareOp .NotIn) (rInD X.K true) := by
  intro pins s σ H x y v u Q I rx ry h
  rcases h with ⟨p, ds, xs, dx, rfl, hq, hl, hx, hd, q⟩ | h
  · cases ry
    have hu : X.A.in1.units + depL ds < cLine := by show X.A.units + 1 + depL ds < cLine; have := hr.un; omega
    simp only [Bool.true_xor] at q
    rcases hq with hq | hq
    · obtain ⟨its, r, pl, hz⟩ := I.list hq
      refine SeqAt.notIn_listAt (ansU X.K H dx) pl.isList (fun w hw => mem_ansU I hx rx hl r hu w (by simpa using hw)) ⟨.bl _, H, I, rfl, ?_⟩
      rw [show its.toArray.any (ansU X.K H dx) = its.any (ansU X.K H dx) by simp, any_ansU I hl r]
      exact q
    · obtain ⟨its, r, pl, hz⟩ := I.tuple hq
      refine SeqAt.notIn_tupleAt (ansU X.K H dx) pl (fun w hw => mem_ansU I hx rx hl r hu w (by simpa using hw)) ⟨.bl _, H, I, rfl, ?_⟩
      rw [show its.toArray.any (ansU X.K H dx) = its.any (ansU X.K H dx) by simp, any_ansU I hl r]
      exact q
  · obtain ⟨i, j, e1, e2, q⟩ := h
    exact op_notin_str pins s σ H x y v u Q I rx ry ⟨i, j, e1, e2, by simpa [inS] using q⟩
def inD (neg : Bool) : D → D → Option D
  | x, .lst ds => if depL ds ≤ 100 then some (.bl (xor neg (ds.any fun d => eqD d x))) else none
  | x, .tup ds => if depL ds ≤ 100 then some (.bl (xor neg (ds.any fun d => eqD d x))) else none
  | .str x, .str z => some (.bl (xor neg (inS x z)))
  | _, _ => none
theorem opD_in {neg : Bool} : OpD X (rInD X.K neg) (inD neg) := by
  intro σ ρ H₀ Hf₀ H Hf x y dx dy d Q R hx hy hφ k
  unfold inD at hφ
  split at hφ
  · split at hφ
    · cases hφ
      rename_i hd
      obtain ⟨a, xs, rfl, qa, la⟩ := hy.lst R
      exact .inl ⟨a, _, xs, dx, rfl, .inl qa, la.mono R.sf, hx.full R, hd, k _ _ _ R sameR sameR (Has.bl_iff.mpr rfl)⟩
    · cases hφ
  · split at hφ
    · cases hφ
      rename_i hd
      obtain ⟨a, xs, rfl, qa, la⟩ := hy.tup R
      exact .inl ⟨a, _, xs, dx, rfl, .inr qa, la.mono R.sf, hx.full R, hd, k _ _ _ R sameR sameR (Has.bl_iff.mpr rfl)⟩
    · cases hφ
  · cases hφ
    exact .inr ⟨_, _, hx.str, hy.str, k _ _ _ R sameR sameR (Has.bl_iff.mpr rfl)⟩
  · cases hφ
theorem dt_in (hr : Room kk X.A) (ha : DR X a f) (hb : DR X b g) (hm : behindInMarks .In b = false := by rfl) : DT X (.Compare a [.In] [b] pos) (blF (bind2 (inD false) f g)) := pt_of_cmp (op_inD hr) opD_in ha hb hm
theorem dt_notin (hr : Room kk X.A) (ha : DR X a f) (hb : DR X b g) (hm : behindInMarks .NotIn b = false := by rfl) : DT X (.Compare a [.NotIn] [b] pos) (blF (bind2 (inD true) f g)) := pt_of_cmp (op_notInD hr) opD_in ha hb hm

def chainF (φ ψ : D → D → Option D) (f g h : FE) : FE := fun ρ => (f ρ).bind fun x => (g ρ).bind fun y => (φ x y).bind fun
  | .bl true => (h ρ).bind fun z => ψ y z
  | .bl false => some (.bl false)
  | _ => none
/-- a < b < c < d, as a value or a test -/
def chain3F (φ ψ χ : D → D → Option D) (f g h i : FE) : FE := fun ρ => (f ρ).bind fun x => (g ρ).bind fun y => (φ x y).bind fun
  | .bl true => (h ρ).bind fun z => (ψ y z).bind fun
    | .bl true => (i ρ).bind fun w => χ z w
    | .bl false => some (.bl false)
    | _ => none
  | .bl false => some (.bl false)
  | _ => none

end
end FL

set_option Elab.async false
set_option linter.all false
set_option maxRecDepth 100000
set_option maxHeartbeats 4000000
namespace FL
open PySem PySem.Spec PyProof.Rows L2
section
variable {prog : Program} {w : World} {A : Around} {E : Value → Shared → Prop} {s : Shared}
end
section
variable {X : Cx} {e : Expr} {f : FE} {pos : Pos} {tg : Expr}
def itemsB (f : FE) : FA := fun ρ => (f ρ).bind fun | .tup ds => some ds.reverse | _ => none
end
end FL

set_option Elab.async false
set_option linter.all false
set_option maxRecDepth 100000
set_option maxHeartbeats 4000000
namespace FL
open PySem PySem.Spec PyProof.Rows L2
section
variable {X : Cx} {e : Expr} {f : FE} {pos : Pos} {tg : Expr}
end
def isKind (k : NameKind) : Option NameKind → Bool
  | some k' => k' == k
  | none => false
def compOk (osc scope : Scope) (frees : List Str) : Bool :=
  scope.kind == .function && scope.names.all (fun y => !(y.2 == .cell)) && scope.names.all (fun y => !(y.2 == .local) || isKind .local (scope.names.lookup y.1)) &&
  scope.names.all (fun y => !(y.2 == .free) || (isKind .cell (osc.names.lookup y.1) || isKind .free (osc.names.lookup y.1))) &&
  frees.all (fun x => (isKind .cell (osc.names.lookup x) || isKind .free (osc.names.lookup x)) && isKind .free (scope.names.lookup x))
theorem isKind_eq {k : NameKind} {o : Option NameKind} (h : isKind k o = true) : o = some k := by
  unfold isKind at h
  split at h
  · rw [eq_of_beq h]
  · cases h
theorem CompScope.of {osc scope : Scope} {own frees : List Str} (h : compOk osc scope frees = true) : CompScope osc scope own frees := by
  unfold compOk at h
  simp only [Bool.and_eq_true, List.all_eq_true] at h
  obtain ⟨⟨⟨⟨h1, h2⟩, h3⟩, h4⟩, h5⟩ := h
  refine ⟨eq_of_beq h1, fun y hy z => ?_, fun y hy z => ?_, fun y hy z => ?_, fun x hx => ?_⟩
  · have := h2 y hy
    rw [z] at this
    simp at this
  · have := h3 y hy
    rw [z] at this
    simp at this
    exact isKind_eq this
  · have := h4 y hy
    rw [z] at this
    simp at this
    exact this.imp isKind_eq isKind_eq
  · have := h5 x hx
    exact ⟨(by simpa using this.1 : _ ∨ _).imp isKind_eq isKind_eq, isKind_eq this.2⟩
section
variable {X : Cx} {scope : Scope} {own frees : List Str} {caps : List Nat}
end

inductive GEnt (K : PySem.W.Frag) : List DictEntry → List (Int × D) → Prop
  | nil : GEnt K [] []
  | cons {k : Int} {t : Tok} {u : Value} {v : V} {d : D} {es : List DictEntry} {kvs : List (Int × D)} : hashInt k = k → RelV v u → Has K (fun _ => none) d v → GEnt K es kvs → GEnt K (⟨k, .int k t, u⟩ :: es) ((k, d) :: kvs)
theorem GEnt.vals {K : PySem.W.Frag} : ∀ {es : List DictEntry} {kvs : List (Int × D)}, GEnt K es kvs → ∃ vs : List (Int × Value), (∀ P w, (∀ e ∈ es, ∃ k, (intKind P w).is k e.key = true ∧ e.hash = (intKind P w).hash k) ∧ Pairs (intKind P w) es vs) ∧ vs.map (·.1) = kvs.map (·.1) ∧
    ∀ k d, kvs.lookup k = some d → ∃ u v, valueAt vs k = some u ∧ RelV v u ∧ Has K (fun _ => none) d v
  | _, _, .nil => ⟨[], fun P w => ⟨fun e he => (by cases he), Pairs.nil⟩, rfl, fun k d e => (by simp at e)⟩
  | _, _, @GEnt.cons _ k t u v d es kvs hk r h g => by
    obtain ⟨vs, p1, p2, p3⟩ := g.vals
    have hi : Value.isInt k (.int k t) = true := by simp [Value.isInt]
    refine ⟨(k, u) :: vs, fun P w => ⟨fun e he => ?_, Pairs.cons hi rfl (p1 P w).2⟩, (by simp [p2]), fun k' d' e => ?_⟩
    · rcases List.mem_cons.mp he with rfl | he
      · exact ⟨k, hi, hk.symm⟩
      · exact (p1 P w).1 e he
    · rw [List.lookup_cons] at e
      by_cases hkk : k' = k
      · subst hkk
        simp at e
        subst e
        exact ⟨u, v, by simp [valueAt], r, h⟩
      · have : (k' == k) = false := by simpa using hkk
        rw [this] at e
        obtain ⟨u', v', q1, q2, q3⟩ := p3 k' d' e
        refine ⟨u', v', ?_, q2, q3⟩
        unfold valueAt at q1 ⊢
        rw [List.find?_cons]
        have : decide (k = k') = false := by simpa using fun z : k = k' => hkk z.symm
        simp only [this]
        exact q1
end FL

set_option Elab.async false
set_option linter.all false
set_option maxRecDepth 100000
set_option maxHeartbeats 4000000
namespace FL
open PySem PySem.Spec PyProof.Rows L2
section
variable {ρ : Rho} {i j k : Nat} {f g h : FE} {fa ga : FA} {ft gt ht : FT} {F G B : FS} {γ : FG} {δ : FGs} {d x y : D} {ds : List D}
@[simp] theorem s_vF : vF i ρ = (match ρ[i]? with | some (.fr d) => some d | _ => none) := rfl
@[simp] theorem s_vR : vR i ρ = (match ρ[i]? with | some (.fr d) => some d | some (.ol ds) => some (.lst ds) | _ => none) := rfl
@[simp] theorem s_cF : cF d ρ = some d := rfl
@[simp] theorem s_bind1 {φ : D → Option D} : bind1 φ f ρ = (f ρ).bind φ := rfl
@[simp] theorem s_bind2 {φ : D → D → Option D} : bind2 φ f g ρ = (f ρ).bind fun x => (g ρ).bind fun y => φ x y := rfl
@[simp] theorem s_nilA : nilA ρ = some [] := rfl
@[simp] theorem s_consA : consA f ga ρ = (f ρ).bind fun x => (ga ρ).bind fun xs => some (x :: xs) := rfl
@[simp] theorem s_tupF : tupF ga ρ = (ga ρ).bind fun xs => if xs.length ≤ sizeLine then some (.tup xs) else none := rfl
@[simp] theorem s_lstF : lstF ga ρ = (ga ρ).bind fun xs => if xs.length ≤ sizeLine then some xs else none := rfl
@[simp] theorem s_mapLst : mapLst fa ρ = (fa ρ).map D.lst := rfl
@[simp] theorem s_blF : blF f ρ = (f ρ).bind fun | .bl b => some b | _ => none := rfl
@[simp] theorem s_andT : andT ft gt ρ = (ft ρ).bind fun b => if b = true then gt ρ else some false := rfl
@[simp] theorem s_orT : orT ft gt ρ = (ft ρ).bind fun b => if b = true then some true else gt ρ := rfl
@[simp] theorem s_notT : notT ft ρ = (ft ρ).bind fun b => some (!b) := rfl
@[simp] theorem s_ttF : ttF ρ = some true := rfl
@[simp] theorem s_andV : andV f g ρ = (f ρ).bind fun | .bl b => (if b = true then g ρ else some (.bl false)) | _ => none := rfl
@[simp] theorem s_orV : orV f g ρ = (f ρ).bind fun | .bl b => (if b = true then some (.bl true) else g ρ) | _ => none := rfl
@[simp] theorem s_notV : notV f ρ = (f ρ).bind fun | .bl b => some (.bl (!b)) | _ => none := rfl
@[simp] theorem s_ifF : ifF ft f g ρ = (ft ρ).bind fun b => if b = true then f ρ else g ρ := rfl
@[simp] theorem s_appF {φ : List D → Option D} : appF φ fa ρ = (fa ρ).bind φ := rfl
@[simp] theorem s_seqF : seqF F G ρ = (F ρ).bind fun o => match o with | .nx ρ' => G ρ' | o => some o := rfl
@[simp] theorem s_nxF : nxF ρ = some (.nx ρ) := rfl
@[simp] theorem s_retF : retF f ρ = (f ρ).bind fun d => some (.rt d) := rfl
@[simp] theorem s_retN : retN ρ = some (.rt .non) := rfl
@[simp] theorem s_bkF : bkF ρ = some (.bk ρ) := rfl
@[simp] theorem s_ctF : ctF ρ = some (.ct ρ) := rfl
@[simp] theorem s_dropF : dropF f ρ = (f ρ).bind fun _ => some (.nx ρ) := rfl
@[simp] theorem s_ifS : ifS ft F G ρ = (ft ρ).bind fun b => if b = true then F ρ else G ρ := rfl
@[simp] theorem s_asgF : asgF i f ρ = (f ρ).bind fun d => some (.nx (ρ.set i (.fr d))) := rfl
@[simp] theorem s_asgN : asgN i fa ρ = (fa ρ).bind fun ds => some (.nx (ρ.set i (.ol ds))) := rfl
@[simp] theorem s_asgG : asgG γ f ρ = (f ρ).bind fun d => (γ d ρ).bind fun ρ' => some (.nx ρ') := rfl
@[simp] theorem s_frzF : frzF i F ρ = (frz i ρ).bind F := rfl
@[simp] theorem s_frz : frz i ρ = (match ρ[i]? with | some (.ol ds) => some (ρ.set i (.fr (.lst ds))) | some (.fr _) => some ρ | _ => none) := rfl
@[simp] theorem s_nameG : nameG i d ρ = some (ρ.set i (.fr d)) := rfl
@[simp] theorem s_nilG : nilG [] ρ = some ρ := rfl
@[simp] theorem s_consG {r : List D} : consG γ δ (d :: r) ρ = (γ d ρ).bind fun ρ' => δ r ρ' := rfl
@[simp] theorem s_tupG : tupG k δ (.tup ds) ρ = if ds.length = k then δ ds ρ else none := rfl
@[simp] theorem s_parF : parF i j fa ρ = (fa ρ).bind fun l => match l with | [d, d'] => some (.nx ((ρ.set i (.fr d)).set j (.fr d'))) | _ => none := rfl
@[simp] theorem s_appendF : appendF i f ρ = (f ρ).bind fun d => match ρ[i]? with | some (.ol ds) => if ds.length < sizeLine then some (.nx (ρ.set i (.ol (ds ++ [d])))) else none | _ => none := rfl
@[simp] theorem s_forF : forF fa γ B ρ = (fa ρ).bind fun ds => loopF γ B ds ρ := rfl
@[simp] theorem s_itemsE : itemsE f ρ = (seqItems f ρ).bind fun ds => some (enumD ds) := rfl
@[simp] theorem s_itemsZ : itemsZ f g ρ = (seqItems f ρ).bind fun xs => (seqItems g ρ).bind fun ys => some (zipD xs ys) := rfl
@[simp] theorem s_itemsB : itemsB f ρ = (f ρ).bind fun | .tup ds => some ds.reverse | _ => none := rfl
@[simp] theorem s_seqItems : seqItems f ρ = (f ρ).bind seqOf := rfl
@[simp] theorem s_seqL : seqOf (.lst ds) = some ds := rfl
@[simp] theorem s_seqT : seqOf (.tup ds) = some ds := rfl
@[simp] theorem s_noP : noP ρ = some none := rfl
@[simp] theorem s_exP : exP f ρ = (f ρ).bind fun | .int i => some (some i) | _ => none := rfl
@[simp] theorem s_sliceF {l u : FP} : sliceF f l u ρ = (f ρ).bind fun x => (l ρ).bind fun lo => (u ρ).bind fun hi => match x with | .tup ds => some (.tup (cutL ds lo hi)) | .lst ds => some (.lst (cutL ds lo hi)) | _ => none := rfl
@[simp] theorem s_revF : revF f g ρ = (f ρ).bind fun x => (g ρ).bind fun y => match x, y with | .tup ds, .int i => if i = -1 then some (.tup ds.reverse) else none | .lst ds, .int i => if i = -1 then some (.lst ds.reverse) else none | _, _ => none := rfl
@[simp] theorem s_revN : revN f g ρ = (f ρ).bind fun x => (g ρ).bind fun y => match x, y with | .lst ds, .int i => if i = -1 then some ds.reverse else none | _, _ => none := rfl
@[simp] theorem s_listN : listN fa ρ = (fa ρ).bind fun l => match l with | [.lst ds] => some ds | [.tup ds] => some ds | _ => none := rfl
@[simp] theorem s_compF {n : Nat} {caps : List Nat} {fi : FA} : compF n caps fi γ ft f ρ = (fi ρ).bind fun ds => if ds.length ≤ sizeLine then compGo γ ft f ds (compS n caps ρ) else none := rfl
@[simp] theorem s_compS {n : Nat} {caps : List Nat} : compS n caps ρ = List.replicate n .no ++ caps.map (capS ρ) := rfl
@[simp] theorem s_capS : capS ρ j = (match ρ[j]? with | some (.fr d) => .fr d | _ => .no) := rfl
@[simp] theorem s_rng1 : rng1 fa ρ = (fa ρ).bind rangeA := rfl
@[simp] theorem s_rng2 : rng2 fa ρ = (fa ρ).bind rangeB := rfl
@[simp] theorem s_chainF {φ ψ : D → D → Option D} : chainF φ ψ f g h ρ = (f ρ).bind fun x => (g ρ).bind fun y => (φ x y).bind fun | .bl true => (h ρ).bind fun z => ψ y z | .bl false => some (.bl false) | _ => none := rfl
@[simp] theorem s_denF : denF k F ds = outD (F (startR k ds)) := rfl
@[simp] theorem s_outR : outD (some (.rt d)) = some d := rfl
@[simp] theorem s_outN : outD (some (.nx ρ)) = some .non := rfl
@[simp] theorem s_startR : startR k ds = ds.map Slot.fr ++ List.replicate (k - ds.length) Slot.no := rfl
variable {a b : Int}
@[simp] theorem s_sub : subD (.int a) (.int b) = some (.int (a - b)) := rfl
@[simp] theorem s_add : addX (.int a) (.int b) = some (.int (a + b)) := rfl
@[simp] theorem s_lt : ltD (.int a) (.int b) = some (.bl (decide (a < b))) := rfl
@[simp] theorem s_le : leD (.int a) (.int b) = some (.bl (decide (a ≤ b))) := rfl
@[simp] theorem s_gt : gtD (.int a) (.int b) = some (.bl (decide (b < a))) := rfl
@[simp] theorem s_ge : geD (.int a) (.int b) = some (.bl (decide (b ≤ a))) := rfl
@[simp] theorem s_neg : negD (.int a) = some (.int (-a)) := rfl
@[simp] theorem s_eqi : eqF (.int a) (.int b) = some (.bl (decide (a = b))) := eqF_int
@[simp] theorem s_nei : neF (.int a) (.int b) = some (.bl (!decide (a = b))) := neF_int
@[simp] theorem s_isN : isD k' .non .non = some (.bl (!k')) := rfl
@[simp] theorem s_min : minD [.int a, .int b] = some (.int (if b < a then b else a)) := rfl
@[simp] theorem s_max : maxD [.int a, .int b] = some (.int (if b > a then b else a)) := rfl
@[simp] theorem s_int : intD [.int a] = some (.int a) := rfl
@[simp] theorem s_intb {b : Bool} : intD [.bl b] = some (.int (if b then 1 else 0)) := rfl
@[simp] theorem s_lenL : lenD [.lst ds] = some (.int ds.length) := rfl
@[simp] theorem s_lenT : lenD [.tup ds] = some (.int ds.length) := rfl
@[simp] theorem s_tuL : tupleD [.lst ds] = some (.tup ds) := rfl
@[simp] theorem s_tuT : tupleD [.tup ds] = some (.tup ds) := rfl
@[simp] theorem s_isTy {T : String} : isTy T d = some (.bl (subTy (tyN d) T)) := rfl
end
end FL

set_option Elab.async false
set_option linter.all false
set_option maxRecDepth 100000
set_option maxHeartbeats 4000000
namespace FL
open PySem PySem.Spec PyProof.Rows L2
section
variable {X : Cx}
def mulX : D → D → Option D
  | .int i, .int j => mulD (.int i) (.int j)
  | .tup (d :: ds), .int k => if 1 ≤ k ∧ (ds.length + 1) * k.toNat ≤ sizeLine then some (.tup (List.replicate k.toNat (d :: ds)).flatten) else none
  | _, _ => none
@[simp] theorem s_mulX {i j : Int} : mulX (.int i) (.int j) = mulD (.int i) (.int j) := rfl
end
end FL

set_option Elab.async false
set_option linter.all false
set_option maxRecDepth 100000
set_option maxHeartbeats 4000000
namespace FL
open PySem PySem.Spec PyProof.Rows L2
variable {X : Cx}
def boolsOf : List D → Option (List Bool)
  | [] => some []
  | .bl b :: ds => (boolsOf ds).map (b :: ·)
  | _ :: _ => none
def intsOf : List D → Option (List Int)
  | [] => some []
  | .int b :: ds => (intsOf ds).map (b :: ·)
  | _ :: _ => none
theorem HasL.bools {K : PySem.W.Frag} {H : Hp} : ∀ {ds : List D} {xs : List V} {bs : List Bool}, HasL K H ds xs → boolsOf ds = some bs → xs = bs.map V.bl
  | [], [], bs, h, e => by cases e; rfl
  | [], _ :: _, bs, h, e => by have := h.length; cases this
  | _ :: _, [], bs, h, e => by have := h.length; cases this
  | .bl b :: ds, x :: xs, bs, h, e => by
    unfold boolsOf at e
    cases e' : boolsOf ds with
    | none => rw [e'] at e; cases e
    | some cs =>
      rw [e'] at e
      cases e
      obtain ⟨_, _, e0, h1, h2⟩ := HasL.cons_iff.mp h
      cases e0
      rw [Has.bl_iff.mp h1, HasL.bools h2 e']
      rfl
  | .non :: _, _ :: _, _, _, e => by cases e
  | .int _ :: _, _ :: _, _, _, e => by cases e
  | .str _ :: _, _ :: _, _, _, e => by cases e
  | .tup _ :: _, _ :: _, _, _, e => by cases e
  | .lst _ :: _, _ :: _, _, _, e => by cases e
def allD : List D → Option D
  | [.lst ds] => (boolsOf ds).map fun bs => .bl (bs.all id)
  | _ => none
def anyD : List D → Option D
  | [.lst ds] => (boolsOf ds).map fun bs => .bl (bs.any id)
  | _ => none
def sumD : List D → Option D
  | [.lst ds] => (intsOf ds).map fun bs => .int bs.sum
  | _ => none
theorem boolsOf_map : ∀ bs : List Bool, boolsOf (bs.map D.bl) = some bs
  | [] => rfl
  | b :: bs => by rw [List.map_cons, boolsOf, boolsOf_map bs]; rfl
theorem intsOf_map : ∀ bs : List Int, intsOf (bs.map D.int) = some bs
  | [] => rfl
  | b :: bs => by rw [List.map_cons, intsOf, intsOf_map bs]; rfl
@[simp] theorem s_all (bs : List Bool) : allD [.lst (bs.map D.bl)] = some (.bl (bs.all id)) := by show (boolsOf (bs.map D.bl)).map _ = _; rw [boolsOf_map]; rfl
@[simp] theorem s_any (bs : List Bool) : anyD [.lst (bs.map D.bl)] = some (.bl (bs.any id)) := by show (boolsOf (bs.map D.bl)).map _ = _; rw [boolsOf_map]; rfl
@[simp] theorem s_sum (bs : List Int) : sumD [.lst (bs.map D.int)] = some (.int bs.sum) := by show (intsOf (bs.map D.int)).map _ = _; rw [intsOf_map]; rfl
end FL

set_option Elab.async false
set_option linter.all false
set_option maxRecDepth 100000
set_option maxHeartbeats 4000000
namespace FL
open PySem PySem.Spec PyProof.Rows L2
section
variable {prog : Program} {w : World} {A : Around} {E : Value → Shared → Prop} {s : Shared}
end
def revT (f : FE) : FE := fun ρ => (f ρ).bind fun | .tup ds => some (.tup ds.reverse) | _ => none
@[simp] theorem s_revT {f : FE} {ρ : Rho} : revT f ρ = (f ρ).bind fun | .tup ds => some (.tup ds.reverse) | _ => none := rfl
variable {X : Cx} {e : Expr} {f : FE} {pos : Pos}
end FL

set_option Elab.async false
set_option linter.all false
set_option maxRecDepth 100000
set_option maxHeartbeats 4000000
namespace FL
open PySem PySem.Spec PyProof.Rows L2
section
variable {X : Cx} {pins : List (Addr × Obj)} {σ : St} {H : Hp} {s : Shared}
end
section
variable {X : Cx} {o e : Expr} {f g : FE} {kk : Nat}
end
end FL

set_option Elab.async false
set_option linter.all false
set_option maxRecDepth 100000
set_option maxHeartbeats 4000000
namespace FL
open PySem PySem.Spec PyProof.Rows L2
section
variable {X : Cx} {tg : Expr}
/-- hi, hi - 1, .. above lo -/
def downD (hi lo : Int) : List D := (List.range (hi - lo).toNat).map fun (k : Nat) => D.int (hi - (k : Int))
def rangeC : List D → Option (List D)
  | [.int i, .int j, .int k] => if k = -1 ∧ -1000000 ≤ i ∧ i ≤ 1000000 ∧ -1000000 ≤ j ∧ j ≤ 1000000 then some (downD i j) else none
  | _ => none
def rng3 (fa : FA) : FA := fun ρ => (fa ρ).bind rangeC
@[simp] theorem s_rng3 {fa : FA} {ρ : Rho} : rng3 fa ρ = (fa ρ).bind rangeC := rfl
end
end FL

set_option Elab.async false
set_option linter.all false
set_option maxRecDepth 100000
set_option maxHeartbeats 4000000
namespace FL
open PySem PySem.Spec PyProof.Rows L2
section
variable {X : Cx} {a b c dd : Expr} {f g h i4 : FE} {pos p2 : Pos}
@[simp] theorem s_chain3F {φ ψ χ : D → D → Option D} {ρ : Rho} : chain3F φ ψ χ f g h i4 ρ = (f ρ).bind fun x => (g ρ).bind fun y => (φ x y).bind fun
  | .bl true => (h ρ).bind fun z => (ψ y z).bind fun
    | .bl true => (i4 ρ).bind fun w => χ z w
    | .bl false => some (.bl false)
    | _ => none
  | .bl false => some (.bl false)
  | _ => none := rfl
end
section
variable {X : Cx} {e : Expr} {f : FE} {pos : Pos}
def augF (i : Nat) (op : Int → Int → Int) (f : FE) : FS := fun ρ => (f ρ).bind fun y => match ρ[i]?, y with
  | some (.fr (.int m)), .int k => some (.nx (ρ.set i (.fr (.int (op m k)))))
  | _, _ => none
@[simp] theorem s_augF {i : Nat} {op : Int → Int → Int} {ρ : Rho} : augF i op f ρ = (f ρ).bind fun y => match ρ[i]?, y with
  | some (.fr (.int m)), .int k => some (.nx (ρ.set i (.fr (.int (op m k)))))
  | _, _ => none := rfl
def popF (i : Nat) (f : FE) : FS := fun ρ => (f ρ).bind fun y => match ρ[i]?, y with
  | some (.ol ds), .int k => if 0 ≤ k ∧ k < ds.length ∧ ds.length ≤ 1000 then some (.nx (ρ.set i (.ol (ds.eraseIdx k.toNat)))) else none
  | _, _ => none
@[simp] theorem s_popF {i : Nat} {ρ : Rho} : popF i f ρ = (f ρ).bind fun y => match ρ[i]?, y with
  | some (.ol ds), .int k => if 0 ≤ k ∧ k < ds.length ∧ ds.length ≤ 1000 then some (.nx (ρ.set i (.ol (ds.eraseIdx k.toNat)))) else none
  | _, _ => none := rfl
end
section
variable {X : Cx} {e : Expr} {f : FE}
def intO : D → Option D
  | .int k => some (.int k)
  | _ => none
def lendF (i : Nat) (f : FE) : FE := fun ρ => (frz i ρ).bind fun ρ' => (f ρ').bind intO
@[simp] theorem s_lendF {i : Nat} {ρ : Rho} : lendF i f ρ = (frz i ρ).bind fun ρ' => (f ρ').bind intO := rfl
@[simp] theorem s_intO {k : Int} : intO (.int k) = some (.int k) := rfl
end
end FL

set_option Elab.async false
set_option linter.all false
set_option maxRecDepth 100000
set_option maxHeartbeats 4000000
namespace FL
open PySem PySem.Spec PyProof.Rows L2

section
variable {prog : Program} {w : World} {A : Around} {E : Value → Shared → Prop} {s : Shared}
end
section
variable {P : Program} {w : World} {K : PySem.W.Frag} {J1 J2 : It} {fp1 fp2 : List Addr} {i1 i2 z TI TO : Addr} {tn1 tn2 : Nat → Heap → Prop}
end
section
variable {prog : Program} {w : World} {A : Around} {E : Value → Shared → Prop} {s : Shared}
end
def itemsEZ (f g : FE) : FA := fun ρ => (itemsZ f g ρ).bind fun ds => some (enumD ds)
@[simp] theorem s_itemsEZ {f g : FE} {ρ : Rho} : itemsEZ f g ρ = (itemsZ f g ρ).bind fun ds => some (enumD ds) := rfl
section
variable {X : Cx} {e1 e2 : Expr} {f1 f2 : FE} {pos : Pos} {elts : List Expr} {kx : Nat} {tp : Pos}
end
end FL

set_option Elab.async false
set_option linter.all false
set_option maxRecDepth 100000
set_option maxHeartbeats 4000000
namespace FL
open PySem PySem.Spec PyProof.Rows L2

def insI (x : Int) : List Int → List Int
  | [] => [x]
  | y :: l => if x ≤ y then x :: y :: l else y :: insI x l
def sortI : List Int → List Int
  | [] => []
  | x :: l => insI x (sortI l)
section
variable {X : Cx} {e : Expr} {pos : Pos}
theorem vals_ints {us : List Value} {ns : List Int} (h : IntsAre us ns) : Vals (ns.map V.int) us := by
  induction h with
  | nil => exact .nil
  | cons _ _ _ ih => exact .cons ⟨_, rfl⟩ ih
def sortN (fa : FA) : FA := fun ρ => (fa ρ).bind fun l => match l with
  | [.lst ds] => (intsOf ds).bind fun ns => if ns.length < 64 then some ((sortI ns).map D.int) else none
  | _ => none
@[simp] theorem s_sortN {fa : FA} {ρ : Rho} : sortN fa ρ = (fa ρ).bind fun l => match l with
  | [.lst ds] => (intsOf ds).bind fun ns => if ns.length < 64 then some ((sortI ns).map D.int) else none
  | _ => none := rfl
end
end FL

set_option Elab.async false
set_option linter.all false
set_option maxRecDepth 100000
set_option maxHeartbeats 4000000
namespace FL
open PySem PySem.Spec PyProof.Rows L2

section
variable {X : Cx}
def mulN (f g : FE) : FA := fun ρ => (f ρ).bind fun x => (g ρ).bind fun y => match x, y with
  | .lst (d :: ds), .int k => if 1 ≤ k ∧ (ds.length + 1) * k.toNat ≤ 1000000 then some (List.replicate k.toNat (d :: ds)).flatten else none
  | _, _ => none
@[simp] theorem s_mulN {f g : FE} {ρ : Rho} : mulN f g ρ = (f ρ).bind fun x => (g ρ).bind fun y => match x, y with
  | .lst (d :: ds), .int k => if 1 ≤ k ∧ (ds.length + 1) * k.toNat ≤ 1000000 then some (List.replicate k.toNat (d :: ds)).flatten else none
  | _, _ => none := rfl
end
end FL

set_option Elab.async false
set_option linter.all false
set_option maxRecDepth 100000
set_option maxHeartbeats 4000000
namespace FL
open PySem PySem.Spec PyProof.Rows L2

def evens {α : Type} : List α → List α
  | [] => []
  | [x] => [x]
  | x :: _ :: l => x :: evens l
section
variable {prog : Program} {w : World} {A : Around} {E : Value → Shared → Prop} {s : Shared}
end
theorem Vals.evens : ∀ {xs : List V} {us : List Value}, Vals xs us → Vals (FL.evens xs) (FL.evens us)
  | _, _, .nil => .nil
  | _, _, .cons h .nil => .cons h .nil
  | _, _, .cons h (.cons _ t) => .cons h (Vals.evens t)
theorem HasL.evens {K : PySem.W.Frag} {H : Hp} : ∀ {ds : List D} {xs : List V}, HasL K H ds xs → HasL K H (FL.evens ds) (FL.evens xs)
  | [], [], _ => .nil
  | [], _ :: _, h => by have := h.length; cases this
  | _ :: _, [], h => by have := h.length; cases this
  | [d], [x], h => h
  | [_], _ :: _ :: _, h => by have := h.length; simp at this
  | _ :: _ :: _, [_], h => by have := h.length; simp at this
  | d :: d' :: ds, x :: x' :: xs, h => by
    obtain ⟨_, _, e0, h1, h2⟩ := HasL.cons_iff.mp h
    cases e0
    obtain ⟨_, _, e1, _, h4⟩ := HasL.cons_iff.mp h2
    cases e1
    exact .cons h1 (HasL.evens h4)
section
variable {X : Cx} {e st : Expr} {f fs : FE} {pos p2 : Pos}
def twoF (f fs : FE) : FE := fun ρ => (f ρ).bind fun x => (fs ρ).bind fun y => match x, y with
  | .tup ds, .int i => if i = 2 then some (.tup (evens ds)) else none
  | _, _ => none
@[simp] theorem s_twoF {ρ : Rho} : twoF f fs ρ = (f ρ).bind fun x => (fs ρ).bind fun y => match x, y with
  | .tup ds, .int i => if i = 2 then some (.tup (evens ds)) else none
  | _, _ => none := rfl
end
end FL

set_option Elab.async false
set_option linter.all false
set_option maxRecDepth 100000
set_option maxHeartbeats 4000000
namespace FL
open PySem PySem.Spec PyProof.Rows L2

section
variable {O : KeyOrd} {n : Nat} {key : Nat → O.α}
structure Bs (n : Nat) (p : Array Nat) : Prop where
  perm : p.Perm (List.toArray (List.range n))
theorem Bs.size {p : Array Nat} (b : Bs n p) : p.size = n := by rw [b.perm.size_eq]; simp
theorem Bs.lt {p : Array Nat} (b : Bs n p) (hn : 0 < n) (i : Nat) : p.getD i 0 < n := by
  rw [Array.getD_eq_getD_getElem?]
  cases h : p[i]? with
  | none => exact hn
  | some a =>
    have hm : a ∈ p := Array.mem_of_getElem? h
    have : a ∈ List.range n := by simpa using b.perm.mem_iff.mp hm
    simpa using this
open KeyOrd
end
end FL

set_option Elab.async false
set_option linter.all false
set_option maxRecDepth 100000
set_option maxHeartbeats 4000000
namespace FL
open PySem PySem.Spec PyProof.Rows L2
open PySem.AutoSeq1 (wpAny_loadPart')
open PySem.MeetsSeq PySem.MeetsSeq2 PySem.MeetsSeq3
def ltP (x y : Int × Int) : Bool := decide (x.1 < y.1) || (decide (x.1 = y.1) && decide (x.2 < y.2))
end FL

set_option Elab.async false
set_option linter.all false
set_option maxRecDepth 100000
set_option maxHeartbeats 4000000
namespace FL
open PySem PySem.Spec PyProof.Rows L2
section
variable {prog : Program} {w : World} {A : Around} {E : Value → Shared → Prop} {s : Shared}
end
end FL

set_option Elab.async false
set_option linter.all false
set_option maxRecDepth 100000
set_option maxHeartbeats 4000000
namespace FL
open PySem PySem.Spec PyProof.Rows L2

def ltR : List (Int × Int) → List (Int × Int) → Bool
  | [], [] => false
  | [], _ :: _ => true
  | _ :: _, [] => false
  | x :: xs, y :: ys => if x = y then ltR xs ys else ltP x y
def insR (x : List (Int × Int)) : List (List (Int × Int)) → List (List (Int × Int))
  | [] => [x]
  | y :: l => if ltR y x = true then y :: insR x l else x :: y :: l
def sortR : List (List (Int × Int)) → List (List (Int × Int))
  | [] => []
  | x :: l => insR x (sortR l)
def pD (x : Int × Int) : D := .tup [.int x.1, .int x.2]
def rwD (r : List (Int × Int)) : D := .tup (r.map pD)
section
variable {X : Cx} {pins : List (Addr × Obj)} {σ : St} {H : Hp} {s : Shared} {A : Around}
end
end FL

set_option Elab.async false
set_option linter.all false
set_option maxRecDepth 100000
set_option maxHeartbeats 4000000
namespace FL
open PySem PySem.Spec PyProof.Rows L2
section
variable {X : Cx} {pins : List (Addr × Obj)} {σ : St} {H : Hp} {s : Shared}
end
def pairOf : D → Option (Int × Int)
  | .tup [.int a, .int b] => some (a, b)
  | _ => none
def rowOf : List D → Option (List (Int × Int))
  | [] => some []
  | d :: ds => (pairOf d).bind fun x => (rowOf ds).bind fun r => some (x :: r)
def rowsOf : List D → Option (List (List (Int × Int)))
  | [] => some []
  | .tup ds :: rest => (rowOf ds).bind fun r => (rowsOf rest).bind fun rs => some (r :: rs)
  | _ :: _ => none
def sortRN (fa : FA) : FA := fun ρ => (fa ρ).bind fun l => match l with
  | [.lst ds] => (rowsOf ds).bind fun rs => if rs.length < 64 ∧ ∀ r ∈ rs, r ≠ [] then some ((sortR rs).map rwD) else none
  | _ => none
@[simp] theorem s_sortRN {fa : FA} {ρ : Rho} : sortRN fa ρ = (fa ρ).bind fun l => match l with
  | [.lst ds] => (rowsOf ds).bind fun rs => if rs.length < 64 ∧ ∀ r ∈ rs, r ≠ [] then some ((sortR rs).map rwD) else none
  | _ => none := rfl
section
variable {X : Cx} {e : Expr} {pos : Pos} {kk : Nat}
end
end FL

set_option Elab.async false
set_option linter.all false
set_option maxRecDepth 100000
set_option maxHeartbeats 4000000
namespace FL
open PySem PySem.Spec PyProof.Rows L2
section
variable {α : Type} {P : List α → Prop}
theorem all0 (k : P []) : ∀ us : List α, us.length = 0 → P us
  | [], _ => k
theorem all1 (k : ∀ a, P [a]) : ∀ us : List α, us.length = 1 → P us
  | a :: us, h => all0 (P := fun us => P (a :: us)) (k a) us (Nat.succ.inj h)
theorem all2 (k : ∀ a b, P [a, b]) : ∀ us : List α, us.length = 2 → P us
  | a :: us, h => all1 (P := fun us => P (a :: us)) (k a) us (Nat.succ.inj h)
end
def keyOf : D → Option Key
  | .int i => some (.inl i)
  | .str x => some (.inr x)
  | _ => none
def keysOf : List D → Option (List Key)
  | [] => some []
  | d :: ds => (keyOf d).bind fun k => (keysOf ds).bind fun ks => some (k :: ks)
def keyD : Key → D
  | .inl i => .int i
  | .inr x => .str x
def putD {κ : Type} [DecidableEq κ] (kvs : List (κ × D)) (k : κ) (v : D) : List (κ × D) :=
  if (kvs.any fun kv => decide (kv.1 = k)) = true then kvs.map (fun kv => if kv.1 = k then (kv.1, v) else kv) else kvs ++ [(k, v)]
theorem KVs.any {K : PySem.W.Frag} {H : Hp} {κ : Type} [DecidableEq κ] {kvs : List (κ × D)} {ws : List (κ × V)} (r : KVs K H kvs ws) (k : κ) : (kvs.any fun kv => decide (kv.1 = k)) = ws.any fun kv => decide (kv.1 = k) := by
  induction r with
  | nil => rfl
  | cons h t ih => rw [List.any_cons, List.any_cons, ih, h.1]
theorem KVs.length {K : PySem.W.Frag} {H : Hp} {κ : Type} {kvs : List (κ × D)} {ws : List (κ × V)} (r : KVs K H kvs ws) : kvs.length = ws.length := Paired.length r
section
variable {X : Cx} {pos : Pos} {kk : Nat}
def dnewF (i : Nat) : FS := fun ρ => some (.nx (ρ.set i (.oT [])))
def dputF (i : Nat) (fa : FA) (g : FE) : FS := fun ρ => (g ρ).bind fun v => (fa ρ).bind fun ks => match ρ[i]? with
  | some (.oT kvs) => (keysOf ks).bind fun k => if kvs.length < sizeLine ∧ ks.length ≤ sizeLine then some (.nx (ρ.set i (.oT (putD kvs k v)))) else none
  | _ => none
end
end FL

set_option Elab.async false
set_option linter.all false
set_option maxRecDepth 100000
set_option maxHeartbeats 4000000
namespace FL
open PySem PySem.Spec PyProof.Rows L2
section
variable {prog : Program} {w : World} {A : Around} {E : Value → Shared → Prop} {s : Shared}
end
end FL

set_option Elab.async false
set_option linter.all false
set_option maxRecDepth 100000
set_option maxHeartbeats 4000000
namespace FL
open PySem PySem.Spec PyProof.Rows L2
end FL

set_option Elab.async false
set_option linter.all false
set_option maxRecDepth 100000
set_option maxHeartbeats 4000000
namespace FL
open PySem PySem.Spec PyProof.Rows L2
def itemsD (kvs : List (List Key × D)) : List D := kvs.map fun kv => .tup [.tup (kv.1.map keyD), kv.2]
section
variable {K : PySem.W.Frag} {H₀ Hf₀ : Hp} {σ : St} {ρ : Rho} {H Hf : Hp}
end
section
variable {X : Cx} {pos : Pos} {body : List Stmt} {γ : FG} {B : FS}
def forDF (i : Nat) (γ : FG) (B : FS) : FS := fun ρ => match ρ[i]? with
  | some (.oT kvs) => loopF γ B (itemsD kvs) (ρ.set i .no)
  | _ => none
@[simp] theorem s_forDF {i : Nat} {γ : FG} {B : FS} {ρ : Rho} : forDF i γ B ρ = match ρ[i]? with
  | some (.oT kvs) => loopF γ B (itemsD kvs) (ρ.set i .no)
  | _ => none := rfl
@[simp] theorem s_dnewF {i : Nat} {ρ : Rho} : dnewF i ρ = some (.nx (ρ.set i (.oT []))) := rfl
@[simp] theorem s_dputF {i : Nat} {fa : FA} {g : FE} {ρ : Rho} : dputF i fa g ρ = (g ρ).bind fun v => (fa ρ).bind fun ks => match ρ[i]? with
  | some (.oT kvs) => (keysOf ks).bind fun k => if kvs.length < sizeLine ∧ ks.length ≤ sizeLine then some (.nx (ρ.set i (.oT (putD kvs k v)))) else none
  | _ => none := rfl
end
end FL

set_option Elab.async false
set_option linter.all false
set_option maxRecDepth 100000
set_option maxHeartbeats 4000000
namespace FL
open PySem PySem.Spec PyProof.Rows L2
def dinT (i : Nat) (fa : FA) : FT := fun ρ => (fa ρ).bind fun ks => match ρ[i]? with
  | some (.oT kvs) => (keysOf ks).bind fun k => if ks.length ≤ sizeLine then some (kvs.any fun kv => decide (kv.1 = k)) else none
  | _ => none
@[simp] theorem s_dinT {i : Nat} {fa : FA} {ρ : Rho} : dinT i fa ρ = (fa ρ).bind fun ks => match ρ[i]? with
  | some (.oT kvs) => (keysOf ks).bind fun k => if ks.length ≤ sizeLine then some (kvs.any fun kv => decide (kv.1 = k)) else none
  | _ => none := rfl
section
variable {X : Cx} {pos : Pos} {kk : Nat}
end
end FL

set_option Elab.async false
set_option linter.all false
set_option maxRecDepth 100000
set_option maxHeartbeats 4000000
namespace FL
open PySem PySem.Spec PyProof.Rows L2
def cutS (z : Str) (lo hi : Option Int) : Str := ⟨(cutL z.cps.toList lo hi).toArray⟩
theorem clipS (n : Nat) (d : Nat) (v : Int) : max (0 : Int) (min (if v < 0 then v + (n : Int) else v) (n : Int)) = ((HT.sIx n d (some v) : Nat) : Int) := by
  show _ = (((if v < 0 then (v + (n : Int)).toNat else min v.toNat n) : Nat) : Int)
  by_cases hv : v < 0
  · simp only [if_pos hv]; omega
  · simp only [if_neg hv]; omega
theorem indS (lo hi : Option Int) (n : Nat) : Builtin.Str.strSliceIndices lo hi 1 n = sliceRange ((HT.sIx n 0 lo : Nat) : Int) ((HT.sIx n n hi : Nat) : Int) 1 := by
  unfold Builtin.Str.strSliceIndices
  have h1 : ((1 : Int) > 0) = True := by simp
  simp only [h1, if_true]
  congr 1
  · cases lo with
    | none => rfl
    | some v => exact clipS n 0 v
  · cases hi with
    | none => rfl
    | some v => exact clipS n n v
theorem rangeS (a b : Nat) : sliceRange (a : Int) (b : Int) 1 = (List.range (b - a)).map fun k => a + k := by
  unfold sliceRange
  have h1 : ((1 : Int) > 0) = True := by simp
  simp only [h1, if_true]
  by_cases h : (a : Int) < b
  · rw [if_pos h]
    have e3 : (((b : Int) - a + 1 - 1) / 1).toNat = b - a := by first | omega | (simp; omega)
    rw [e3]
    refine List.map_congr_left fun k _ => ?_
    omega
  · rw [if_neg h, show b - a = 0 by omega]
    rfl
theorem pickS (z : Str) (lo hi : Option Int) : (Builtin.Str.strSliceIndices lo hi 1 z.length).filterMap (z.cps[·]?) = cutL z.cps.toList lo hi := by
  have hl : z.length = z.cps.toList.length := by simp [Str.length]
  have hb := HT.sIx_le z.cps.toList.length z.cps.toList.length (Nat.le_refl _) hi
  have ha := HT.sIx_le z.cps.toList.length 0 (Nat.zero_le _) lo
  rw [indS, hl]
  unfold cutL
  generalize HT.sIx z.cps.toList.length 0 lo = a at ha ⊢
  generalize HT.sIx z.cps.toList.length z.cps.toList.length hi = b at hb ⊢
  rw [rangeS]
  by_cases hab : a ≤ b
  · have h := StrLaws.picks z.cps.toList (b - a) a (by omega)
    simpa using h
  · rw [show b - a = 0 by omega]
    rfl
theorem cutL_length {α : Type} (xs : List α) (lo hi : Option Int) : (cutL xs lo hi).length ≤ xs.length := by
  unfold cutL
  rw [List.length_take, List.length_drop]
  omega
theorem cutL_same {α : Type} (xs : List α) (lo hi : Option Int) (h : (cutL xs lo hi).length = xs.length) : cutL xs lo hi = xs := by
  unfold cutL at h ⊢
  rw [List.length_take, List.length_drop] at h
  have hb := HT.sIx_le xs.length xs.length (Nat.le_refl _) hi
  generalize HT.sIx xs.length 0 lo = a at h ⊢
  generalize HT.sIx xs.length xs.length hi = b at h hb ⊢
  by_cases hz : xs = []
  · subst hz; simp
  · have : 0 < xs.length := List.length_pos_iff.mpr hz
    have ha : a = 0 := by omega
    subst ha
    have : b = xs.length := by omega
    subst this
    simp
theorem str_ext {x y : Str} (h : x.cps.toList = y.cps.toList) : x = y := by
  cases x; cases y
  simp only [Str.mk.injEq]
  exact Array.toList_inj.mp h
section
variable {X : Cx}
def rSlS : V → Option Int → Option Int → Hp → VK → Prop := fun x lo hi H Q => ∃ z, x = .str z ∧ z.length ≤ sizeLine ∧ Q (.str (cutS z lo hi)) H
theorem sl_str : SlR X rSlS := by
  intro pins s σ H x v vl vu lo hi sl Q I rx hs pl pu h
  obtain ⟨z, rfl, hz, q⟩ := h
  obtain ⟨t, rfl⟩ := rx
  refine ⟨"str", _, F.slot_str_getitem.lookup, typeIs_str s z t, ?_⟩
  obtain ⟨l, el, hl⟩ : ∃ l : Option (Int × Tok), vl = partValue l ∧ l.map (·.1) = lo := by
    cases pl with
    | none => exact ⟨none, rfl, rfl⟩
    | int i t => exact ⟨some (i, t), rfl, rfl⟩
  obtain ⟨u, eu, hu⟩ : ∃ l : Option (Int × Tok), vu = partValue l ∧ l.map (·.1) = hi := by
    cases pu with
    | none => exact ⟨none, rfl, rfl⟩
    | int i t => exact ⟨some (i, t), rfl, rfl⟩
  subst el eu
  refine wpAny_getItem_str_slice (l := l) (u := u) (st := none) hs rfl ?_
  have hp : slicePicked z l u none = Builtin.Str.strSliceIndices lo hi 1 z.length := by
    unfold slicePicked; rw [hl, hu]; rfl
  have hln : (Builtin.Str.strSliceIndices lo hi 1 z.length).length = (cutL z.cps.toList lo hi).length := by
    rw [indS, rangeS, List.length_map, List.length_range]
    have hl : z.length = z.cps.toList.length := by simp [Str.length]
    unfold cutL
    rw [List.length_take, List.length_drop, hl]
    have hb := HT.sIx_le z.cps.toList.length z.cps.toList.length (Nat.le_refl _) hi
    omega
  unfold sliceMade
  rw [hp]
  split
  · rename_i hw
    have e : cutS z lo hi = z := by
      apply str_ext
      show (cutL z.cps.toList lo hi).toArray.toList = _
      rw [List.toList_toArray]
      apply cutL_same
      rw [← hln]
      simp at hw
      rw [hw]
      simp [Str.length]
    exact ⟨.str z, H, I, ⟨t, rfl⟩, by rw [← e]; exact q⟩
  · rw [pickS]
    refine ⟨?_, .str _, H, I.tok _, ⟨_, rfl⟩, q⟩
    have := cutL_length z.cps.toList lo hi
    rw [Array.length_toList] at this
    show (cutL z.cps.toList lo hi).toArray.size ≤ sizeLine
    rw [List.size_toArray]
    exact Nat.le_trans this hz
def sliceX (f : FE) (l u : FP) : FE := fun ρ => (f ρ).bind fun x => (l ρ).bind fun lo => (u ρ).bind fun hi => match x with
  | .tup ds => some (.tup (cutL ds lo hi))
  | .lst ds => some (.lst (cutL ds lo hi))
  | .str z => if z.length ≤ sizeLine then some (.str (cutS z lo hi)) else none
  | _ => none
variable {a b c e : Expr} {f g h : FE} {pos p2 : Pos}
theorem d_sliceX {lo hi : Option Expr} {l u : FP} (he : DR X e f) (hl : DP X lo l) (hu : DP X hi u) : DE X (.Subscript e (.Slice lo hi none p2) pos) (sliceX f l u) :=
  pe_imp (pe_slice (sl_tupG.or (sl_list.or sl_str)) he hl hu) fun σ H Q ⟨H₀, Hf₀, ρ, Hf, d, R, q, k⟩ => by
    obtain ⟨x, e1, e2⟩ := bindV_some q
    cases e3 : l ρ with
    | none => rw [e3] at e2; cases e2
    | some lo =>
      rw [e3] at e2
      cases e4 : u ρ with
      | none => rw [e4] at e2; cases e2
      | some hi =>
        rw [e4] at e2
        simp only [Option.bind_some] at e2
        refine ⟨H₀, Hf₀, ρ, Hf, x, R, e1, fun v H1 Hf1 R1 s1 t1 h1 => ⟨H₀, Hf₀, ρ, Hf1, lo, R1, e3, fun H2 Hf2 R2 s2 t2 => ⟨H₀, Hf₀, ρ, Hf2, hi, R2, e4, fun H3 Hf3 R3 s3 t3 => ?_⟩⟩⟩
        have h3 := (h1.mono t2).mono t3
        have ss := (s1.trans s2).trans s3
        have tt := (t1.trans t2).trans t3
        split at e2
        · cases e2
          obtain ⟨a, xs, rfl, qa, la⟩ := h3.tup R3
          refine .inl ⟨a, xs, rfl, qa, fun hw => ?_, fun hw p hp => ?_⟩
          · rw [la.length] at hw
            exact k _ _ _ R3 ss tt (by rw [cut_whole hw]; exact h3.tupF)
          · have sm := same_upd (o := .tup (cutV xs lo hi)) (R3.sf.free hp)
            exact k _ _ _ (R3.lay hp) (ss.trans (same_upd hp)) (tt.trans sm) (Has.tup_iff.mpr ⟨p, _, rfl, SqT.of upd_same, (la.cut lo hi).mono sm⟩)
        · cases e2
          obtain ⟨a, xs, rfl, qa, la⟩ := h3.lst R3
          refine .inr (.inl ⟨a, xs, rfl, qa, fun p hp => ?_⟩)
          have sm := same_upd (o := .lst (cutV xs lo hi)) (R3.sf.free hp)
          exact k _ _ _ (R3.lay hp) (ss.trans (same_upd hp)) (tt.trans sm) (Has.lst_iff.mpr ⟨p, _, rfl, SqL.of upd_same, (la.cut lo hi).mono sm⟩)
        · split at e2
          · cases e2
            exact .inr (.inr ⟨_, h3.str, by assumption, k _ _ _ R3 ss tt (Has.str_iff.mpr rfl)⟩)
          · cases e2
        · cases e2
end
end FL

set_option Elab.async false
set_option linter.all false
set_option maxRecDepth 100000
set_option maxHeartbeats 4000000
namespace FL
open PySem PySem.Spec PyProof.Rows L2
def ItS (z : Str) : It := ⟨fun i _ => i < z.cps.toList.length, fun i H x H' => H' = H ∧ ∃ c, z.cps.toList[i]? = some c ∧ x = .str ⟨#[c]⟩, fun i _ => z.cps.toList.length ≤ i⟩
theorem turn_text {P : Program} {w : World} {K : PySem.W.Frag} {tg : Expr} (z : Str) (t : Tok) (it : Addr) (ty : String) (hty : ty = "str_ascii_iterator" ∨ ty = "str_iterator") : Turn P w K tg (ItS z) [it] it (fun i h => h.IsStrIter it ty z t i) where
  mem := by simp
  obj := fun i h st b hb => by
    have e : b = it := by simpa using hb
    subst e
    obtain ⟨o, ho, _, hd⟩ := st
    exact ⟨o, ho, fun v zz => by rw [hd] at zz; cases zz⟩
  keep := fun i h h' st k => let ⟨o, ho, r⟩ := st; ⟨o, k it (by simp) o ho, r⟩
  item := by
    intro X hP hw hK hc i pins s σ H E I hf st hg
    subst hP hw hK
    have hg : i < z.cps.toList.length := hg
    have hi : i < z.cps.size := by simpa using hg
    have fr := hf it (by simp)
    have hx : z.cps[i]? = some z.cps[i] := by simp [hi]
    have fin : ∀ h', h'.IsStrIter it ty z t (i + 1) → Heap.SameBut it s.heap h' → ∃ u, (some (Value.str ⟨#[z.cps[i]]⟩ s.toks)) = some u ∧ wpAny (model X.prog X.w) X.A (letOwnedTupleGo tg (.ref it) u) (fun _ s2 => ∃ x H', Inv X pins σ H' s2 ∧ RelV x u ∧ (ItS z).yld i H x H' ∧ s2.heap.IsStrIter it ty z t (i + 1) ∧ ∀ b ∈ [it], H' b = none) E { s with heap := h', toks := s.toks + 1 } := by
      intro h' st' sb
      have I1 : Inv X pins σ H { s with heap := h', toks := s.toks + 1 } := turned1 (t' := s.toks + 1) I sb fr
      obtain ⟨o, ho, hcl, hd⟩ := id st'
      refine ⟨_, rfl, go_of (s := { s with heap := h', toks := s.toks + 1 }) ho hcl hd (by rcases hty with e | e <;> subst e <;> decide) ⟨.str ⟨#[z.cps[i]]⟩, H, I1, ⟨_, rfl⟩, ⟨rfl, z.cps[i], by simp [hi], rfl⟩, st', fun b hb => (hf b hb).1⟩⟩
    rcases hty with e | e
    · subst e
      exact wpAny_pyNext_ascii_item st hx fin
    · subst e
      exact wpAny_pyNext_wide_item st hx fin
  done := by
    intro X hP hw hK hc i pins s σ H E I hf st hg
    subst hP hw hK
    have hg : z.cps.toList.length ≤ i := hg
    have hx : z.cps[i]? = none := by simpa using hg
    obtain ⟨f0, f1, f2, f3, f4, f5⟩ := hf it (by simp)
    have fin : ∀ h', Heap.ExtBut it s.heap h' → (none : Option Value) = none ∧ Inv X pins σ H { s with heap := h' } := fun h' eb =>
      ⟨rfl, I.turned (t' := s.toks) (fun b o hb e => eb b o hb e) f0 f1 f3 f4 f5⟩
    rcases hty with e | e
    · subst e
      exact wpAny_pyNext_ascii_end (I.ok.hd hc) st hx fin
    · subst e
      exact wpAny_pyNext_wide_end (I.ok.hd hc) st hx fin
  self := fun A i s Q E st h => by
    rcases hty with e | e
    · subst e; exact wpAny_pyIter_striter_ascii st h
    · subst e; exact wpAny_pyIter_striter_wide st h
def sgnD (z : Str) : List D := z.cps.toList.map fun c => D.str ⟨#[c]⟩
theorem walks_text {K : PySem.W.Frag} {Hf : Hp} {z : Str} : FL.Walks K Hf (ItS z) (sgnD z) := fun H2 Hf2 t2 sf2 i => by
  refine ⟨fun d hd => ?_, fun hle => ?_⟩
  · unfold sgnD at hd
    rw [List.getElem?_map] at hd
    cases e : z.cps.toList[i]? with
    | none => rw [e] at hd; cases hd
    | some c =>
      rw [e] at hd
      cases hd
      refine ⟨(List.getElem?_eq_some_iff.mp e).1, fun x H3 hy => ?_⟩
      obtain ⟨rfl, c', hc, rfl⟩ := hy
      rw [e] at hc
      cases hc
      exact ⟨Hf2, Grows.refl sf2, Has.str_iff.mpr rfl⟩
  · show z.cps.toList.length ≤ i
    simpa [sgnD] using hle
section
variable {X : Cx} {e : Expr} {f : FE} {pos : Pos} {tg : Expr}
def seqOfX : D → Option (List D)
  | .lst ds => some ds
  | .tup ds => some ds
  | .str z => some (sgnD z)
  | _ => none
def seqX (f : FE) : FA := fun ρ => (f ρ).bind seqOfX
theorem di_seqX (he : DE X e f) : DI X tg e (seqX f) := by
  intro pins s σ H R I h
  obtain ⟨H₀, Hf₀, ρ, Hf, ds, R0, q, k⟩ := h
  obtain ⟨d, q3, q4⟩ := bindV_some q
  refine thn (he pins s σ H (fun v H1 => ∃ Hf1, Rep X.K H₀ Hf₀ σ ρ H1 Hf1 ∧ Same H H1 ∧ Same Hf Hf1 ∧ Has X.K Hf1 d v) I ⟨H₀, Hf₀, ρ, Hf, d, R0, q3, fun v H1 Hf1 R1 s1 t1 h1 => ⟨Hf1, R1, s1, t1, h1⟩⟩) fun u s1 ⟨v, H1, I1, r, Hf1, R1, s1', t1, h1⟩ => ?_
  cases d with
  | lst ds' =>
    cases q4
    obtain ⟨a, xs, rfl, qa, la⟩ := Has.lst_iff.mp h1
    cases r
    obtain ⟨its, rv, p, hz⟩ := I1.list (R1.sf.seq qa)
    refine wpAny_pyIter_list p.isList ?_
    refine ⟨s1.heap.objs.size, [s1.heap.objs.size], _, _, H1, rfl, I1.kept (t' := s1.toks) fun b o e => Heap.get?_push_of_some _ e, turn_list a _, ⟨_, Heap.get?_push_size _ rfl, rfl, rfl⟩, fun b hb => ?_, k _ _ _ R1 s1' t1 (walks_list qa la)⟩
    have e : b = s1.heap.objs.size := by simpa using hb
    subst e
    exact I1.fpOk (Nat.le_refl _) (I1.hok.fresh (Nat.le_refl _))
  | tup ds' =>
    cases q4
    obtain ⟨a, xs, rfl, qa, la⟩ := Has.tup_iff.mp h1
    cases r
    obtain ⟨its, rv, p, hz⟩ := I1.tuple (sameT R1.sf qa)
    refine wpAny_pyIter_tuple (show s1.heap.IsTuple a its.toArray from p) ?_
    refine ⟨s1.heap.objs.size, [s1.heap.objs.size], _, _, H1, rfl, I1.kept (t' := s1.toks) fun b o e => Heap.get?_push_of_some _ e, turn_tuple a _, ⟨_, Heap.get?_push_size _ rfl, rfl, rfl⟩, fun b hb => ?_, k _ _ _ R1 s1' t1 (walks_tup qa la)⟩
    have e : b = s1.heap.objs.size := by simpa using hb
    subst e
    exact I1.fpOk (Nat.le_refl _) (I1.hok.fresh (Nat.le_refl _))
  | str z =>
    cases q4
    cases Has.str_iff.mp h1
    obtain ⟨t, rfl⟩ := r
    have fin : ∀ ty : String, ty = "str_ascii_iterator" ∨ ty = "str_iterator" → PIE X pins σ tg R (.ref s1.heap.objs.size) { s1 with heap := s1.heap.push { cls := .type ty, data := .fields #[.str z t, .int 0 0] } } := fun ty hty => by
      refine ⟨s1.heap.objs.size, [s1.heap.objs.size], _, _, H1, rfl, I1.kept (t' := s1.toks) fun b o e => Heap.get?_push_of_some _ e, turn_text z t _ ty hty, ⟨_, Heap.get?_push_size _ rfl, rfl, rfl⟩, fun b hb => ?_, k _ _ _ R1 s1' t1 walks_text⟩
      have e : b = s1.heap.objs.size := by simpa using hb
      subst e
      exact I1.fpOk (Nat.le_refl _) (I1.hok.fresh (Nat.le_refl _))
    cases ha : z.cps.all (· < 128)
    · exact wpAny_pyIter_wide ha (fin _ (.inr rfl))
    · exact wpAny_pyIter_ascii ha (fin _ (.inl rfl))
  | _ => cases q4
end
section
variable {X : Cx} {o e : Expr} {f g : FE} {kk : Nat}
def rTT (φ : Str → Str → Int) : V → List V → Hp → VK → Prop := fun x vs H Q => ∃ z y, x = .str z ∧ vs = [.str y] ∧ Q (.int (φ z y)) H
theorem mt_rfind : MtR X "str.rfind" (rTT Txt.rfind) := by
  intro pins s σ H x vs v us Q I rx rv h
  obtain ⟨z, y, rfl, rfl, q⟩ := h
  obtain ⟨t, rfl⟩ := rx
  obtain ⟨u, rfl, t', rfl⟩ := vals1 rv
  exact SC.rfind ⟨.int _, H, I.tok _, ⟨_, rfl⟩, q⟩
def ttD (φ : Str → Str → Int) : D → D → Option D
  | .str z, .str y => some (.int (φ z y))
  | _, _ => none
theorem d_tt {φ : Str → Str → Int} {name : Str} {id : String} {apos cpos : Pos} (slot : PySem.Slot "str" name id) (hty : typeOf (.builtin id) = pure (.type "method_descriptor")) (hm : MtR X id (rTT φ)) (ho : DE X o f) (he : DE X e g)
    (hbase : attributeBase o name X.env (eval o X.env) = eval o X.env := by rfl)
    (hfew : ((backTo cpos (starEach [e] X.env)).all (fun x => !x.1) && (backToKw cpos (keywordEach [] X.env)).all (fun x => x.1.isSome)
      && decide (([e] : List Expr).length + ([] : List Keyword).length + (if ([] : List Keyword).isEmpty then 0 else 1) < 30)) = true := by rfl)
    (hline : (apos.endLine == cpos.line) = true := by rfl) (hst : starEach [e] X.env = (false, eval e X.env) :: starEach [] X.env := by rfl) (hplain : (backTo cpos (starEach [] X.env)).any (·.1) = false := by rfl) :
    DE X (.Call (.Attribute o name apos) [e] [] cpos) (bind2 (ttD φ) f g) :=
  pe_imp (pe_bm PySem.F.plainAttrs_str slot hty hm ho (pa_cons he pa_nil hst) hbase hfew hline hst hplain) fun σ H Q ⟨H₀, Hf₀, ρ, Hf, d, R, q, k⟩ => by
    obtain ⟨x, y, e1, e2, e3⟩ := bind2_some q
    refine ⟨H₀, Hf₀, ρ, Hf, x, R, e1, fun v H1 Hf1 R1 s1 t1 h1 => ?_⟩
    unfold ttD at e3
    split at e3
    · cases e3
      cases Has.str_iff.mp h1
      refine ⟨rfl, H₀, Hf₀, ρ, Hf1, _, R1, e2, fun v' H2 Hf2 R2 s2 t2 h2 => ?_⟩
      cases Has.str_iff.mp h2
      exact ⟨_, _, rfl, rfl, k _ _ _ R2 (s1.trans s2) (t1.trans t2) (Has.int_iff.mpr rfl)⟩
    · cases e3
theorem d_rfind {apos cpos : Pos} (ho : DE X o f) (he : DE X e g)
    (hbase : attributeBase o "rfind" X.env (eval o X.env) = eval o X.env := by rfl)
    (hfew : ((backTo cpos (starEach [e] X.env)).all (fun x => !x.1) && (backToKw cpos (keywordEach [] X.env)).all (fun x => x.1.isSome)
      && decide (([e] : List Expr).length + ([] : List Keyword).length + (if ([] : List Keyword).isEmpty then 0 else 1) < 30)) = true := by rfl)
    (hline : (apos.endLine == cpos.line) = true := by rfl) (hst : starEach [e] X.env = (false, eval e X.env) :: starEach [] X.env := by rfl) (hplain : (backTo cpos (starEach [] X.env)).any (·.1) = false := by rfl) :
    DE X (.Call (.Attribute o "rfind" apos) [e] [] cpos) (bind2 (ttD Txt.rfind) f g) := d_tt PySem.F.slot_str_rfind PySem.F.type_str_rfind mt_rfind ho he hbase hfew hline hst hplain
end
section
variable {X : Cx}
def rIntX : List V → Hp → VK → Prop := fun xs H Q => ((∃ i, xs = [.int i] ∧ Q (.int i) H) ∨ ∃ k, xs = [.bl k] ∧ Q (.int (if k then 1 else 0)) H) ∨ ∃ z n, xs = [.str z] ∧ z.length ≤ 640 ∧ PySem.intText? z = some n ∧ Q (.int n) H
theorem call_intX : CallR X (.type "int") rIntX := by
  intro pins s σ H xs us Q I r h
  rcases h with h | ⟨z, n, rfl, hl, hn, q⟩
  · exact call_int1 pins s σ H xs us Q I r h
  · obtain ⟨u, rfl, t, rfl⟩ := vals1 r
    exact PySem.W.KIN.call_text hn hl ⟨.int n, H, I.tok _, ⟨_, rfl⟩, q⟩
def intX : List D → Option D
  | [.int i] => some (.int i)
  | [.bl b] => some (.int (if b then 1 else 0))
  | [.str z] => if z.length ≤ 640 then (PySem.intText? z).map D.int else none
  | _ => none
theorem fnR_intX : FnR X rIntX intX := by
  intro σ ρ H₀ Hf₀ H Hf xs ds d Q R hx hφ k
  unfold intX at hφ
  split at hφ
  · cases hφ
    obtain ⟨v, rfl, hv⟩ := hx.one
    exact .inl (.inl ⟨_, by rw [hv.int], k _ _ _ R sameR sameR (Has.int_iff.mpr rfl)⟩)
  · cases hφ
    obtain ⟨v, rfl, hv⟩ := hx.one
    exact .inl (.inr ⟨_, by rw [hv.bl], k _ _ _ R sameR sameR (Has.int_iff.mpr rfl)⟩)
  · split at hφ
    · rename_i z hl
      cases hn : PySem.intText? z with
      | none => rw [hn] at hφ; cases hφ
      | some n =>
        rw [hn] at hφ
        cases hφ
        obtain ⟨v, rfl, hv⟩ := hx.one
        exact .inr ⟨z, n, by rw [hv.str], hl, hn, k _ _ _ R sameR sameR (Has.int_iff.mpr rfl)⟩
    · cases hφ
  · cases hφ
end
end FL

set_option Elab.async false
set_option linter.all false
set_option maxRecDepth 100000
set_option maxHeartbeats 4000000
namespace FL
open PySem PySem.Spec PyProof.Rows L2
def jn (out : Str) : List Str → Str
  | [] => out
  | z :: zs => jn (out ++ z) zs
theorem jn_len : ∀ (zs : List Str) (out : Str), out.length ≤ (jn out zs).length
  | [], _ => Nat.le_refl _
  | z :: zs, out => by
    have h := jn_len zs (out ++ z)
    rw [strLen_append] at h
    show _ ≤ (jn (out ++ z) zs).length
    omega
abbrev FJ := Rho → Option (List Str)
def tJ (K : PySem.W.Frag) (fj : FJ) (out : Str) : TE := fun σ H Q => ∃ H₀ Hf₀ ρ Hf zs, Rep K H₀ Hf₀ σ ρ H Hf ∧ fj ρ = some zs ∧ (jn out zs).length ≤ sizeLine ∧
  ∀ H' Hf', Rep K H₀ Hf₀ σ ρ H' Hf' → Same H H' → Same Hf Hf' → Q (.str (jn out zs)) H'
def DJ (X : Cx) (es : List Expr) (fj : FJ) : Prop :=
  ∀ (out : Str) (pins : List (Addr × Obj)) (s : Shared) (σ : St) (H : Hp) (Q : VK), Inv X pins σ H s → tJ X.K fj out σ H Q → wpAny (model X.prog X.w) X.A (joinParts out (evalEach es X.env)) (EP X pins σ Q) X.xe s
section
variable {X : Cx} {e : Expr} {es : List Expr} {f : FE} {fj : FJ} {pos p2 : Pos}
def nilJ : FJ := fun _ => some []
def conJ (z : Str) (fj : FJ) : FJ := fun ρ => (fj ρ).bind fun zs => some (z :: zs)
def fmtD : D → Option Str
  | .int i => if i.natAbs.log2 < 1920 then some (toString i) else none
  | .str z => if z.length ≤ sizeLine then some z else none
  | _ => none
def fmtJ (f : FE) (fj : FJ) : FJ := fun ρ => (f ρ).bind fun d => (fmtD d).bind fun z => (fj ρ).bind fun zs => some (z :: zs)
theorem dj_nil : DJ X [] nilJ := by
  intro out pins s σ H Q I h
  obtain ⟨H₀, Hf₀, ρ, Hf, zs, R, q, hz, k⟩ := h
  cases q
  exact joinParts_nilE (joinParts_nil ⟨.str out, H, I.tok _, ⟨_, rfl⟩, k _ _ R sameR sameR⟩ hz)
theorem dj_con {z : Str} {j : Nat} (h : DJ X es fj) : DJ X (.Constant (.str z) j p2 :: es) (conJ z fj) := by
  intro out pins s σ H Q I hh
  obtain ⟨H₀, Hf₀, ρ, Hf, zs, R, q, hz, k⟩ := hh
  cases e : fj ρ with
  | none => unfold conJ at q; rw [e] at q; cases q
  | some zs' =>
    unfold conJ at q
    rw [e] at q
    cases q
    have hz' : (jn (out ++ z) zs').length ≤ sizeLine := hz
    refine joinParts_consE (joinParts_cons (Calls.Constant_str ?_))
    exact ⟨Nat.le_trans (jn_len _ _) hz', h (out ++ z) pins _ σ H Q (I.tok _) ⟨H₀, Hf₀, ρ, Hf, zs', R, e, hz', k⟩⟩
theorem dj_fmt (he : DR X e f) (h : DJ X es fj) : DJ X (.FormattedValue e (-1) none p2 :: es) (fmtJ f fj) := by
  intro out pins s σ H Q I hh
  obtain ⟨H₀, Hf₀, ρ, Hf, zs, R, q, hz, k⟩ := hh
  obtain ⟨d, e1, e2⟩ := bindV_some q
  cases e3 : fmtD d with
  | none => rw [e3] at e2; cases e2
  | some z =>
    rw [e3] at e2
    cases e4 : fj ρ with
    | none => rw [e4] at e2; cases e2
    | some zs' =>
      rw [e4] at e2
      cases e2
      have hz' : (jn (out ++ z) zs').length ≤ sizeLine := hz
      refine joinParts_consE (joinParts_cons (FormattedValue_plain (thn (he pins s σ H (fun v H1 => ∃ Hf1, Rep X.K H₀ Hf₀ σ ρ H1 Hf1 ∧ Same H H1 ∧ Same Hf Hf1 ∧ HasR X.K Hf1 σ ρ d v) I ⟨H₀, Hf₀, ρ, Hf, d, R, e1, fun v H1 Hf1 R1 s1 t1 h1 => ⟨Hf1, R1, s1, t1, h1⟩⟩) fun u s1 ⟨v, H1, I1, r, Hf1, R1, s1', t1, h1⟩ => ?_)))
      have fin : ∀ (t' : Tok) (tk : Nat), (out ++ z).length ≤ sizeLine ∧ wpAny (model X.prog X.w) X.A (joinParts (out ++ z) (evalEach es X.env)) (EP X pins σ Q) X.xe { s1 with toks := tk } := fun t' tk =>
        ⟨Nat.le_trans (jn_len _ _) hz', h (out ++ z) pins _ σ H1 Q (I1.tok _) ⟨H₀, Hf₀, ρ, Hf1, zs', R1, e4, hz', fun H2 Hf2 R2 s2 t2 => k _ _ R2 (s1'.trans s2) (t1.trans t2)⟩⟩
      unfold fmtD at e3
      split at e3
      · split at e3
        · cases e3
          cases h1.int
          obtain ⟨t, rfl⟩ := r
          exact formatField_int_small (by assumption) (fin (s1.toks + 1) _)
        · cases e3
      · split at e3
        · cases e3
          cases h1.str
          obtain ⟨t, rfl⟩ := r
          exact formatField_str fin (by assumption)
        · cases e3
      · cases e3
def joinF (fj : FJ) : FE := fun ρ => (fj ρ).bind fun zs => if (jn Str.empty zs).length ≤ sizeLine then some (.str (jn Str.empty zs)) else none
theorem d_join {v₁ v₂ : Expr} (h : DJ X (v₁ :: v₂ :: es) fj) (hs : evalEach (v₁ :: v₂ :: es) X.env = eval v₁ X.env :: eval v₂ X.env :: evalEach es X.env := by rfl) : DE X (.JoinedStr (v₁ :: v₂ :: es) pos) (joinF fj) := by
  intro pins s σ H Q I hh
  obtain ⟨H₀, Hf₀, ρ, Hf, d, R, q, k⟩ := hh
  cases e : fj ρ with
  | none => unfold joinF at q; rw [e] at q; cases q
  | some zs =>
    unfold joinF at q
    rw [e] at q
    have q : (if (jn Str.empty zs).length ≤ sizeLine then some (D.str (jn Str.empty zs)) else none) = some d := q
    split at q
    · cases q
      refine JoinedStr_many ?_
      rw [← hs]
      exact h Str.empty pins s σ H Q I ⟨H₀, Hf₀, ρ, Hf, zs, R, e, by assumption, fun H' Hf' R' s' t' => k _ _ _ R' s' t' (Has.str_iff.mpr rfl)⟩
    · cases q
def setIF (i : Nat) (g f : FE) : FS := fun ρ => (f ρ).bind fun y => (g ρ).bind fun x => match ρ[i]?, x with
  | some (.ol ds), .int k => (ixN ds.length k).bind fun j => some (.nx (ρ.set i (.ol (ds.set j y))))
  | _, _ => none
theorem ds_setI {ix : Expr} {g : FE} {x : Str} {p1 tpos : Pos} (i : Nat) (he : DE X e f) (hg : DE X ix g) (hN : X.N[i]? = some x := by rfl) (hv : Vis X.env.scope x := by first | exact Or.inl rfl | exact Or.inr (Or.inl rfl) | exact Or.inr (Or.inr rfl))
    (hd : (x == ("__debug__" : Str)) = false := by decide) (hcd : (x == ("__classdict__" : Str)) = false := by decide)
    (ha : ∀ v, assign (.Subscript (.Name x p1) ix tpos) X.env v = (do
      let ov ← holding [v] (eval (.Name x p1) X.env)
      let iv ← holding [v, ov] (eval ix X.env)
      standAt tpos
      holding [v, ov, iv] (setItem ov iv v)
      release [v, ov, iv] []) := by intro _; rfl)
    (hs : swapsWithSole [.Subscript (.Name x p1) ix tpos] e pos.line X.env = pure false := by rfl) (hw : swappedStores [.Subscript (.Name x p1) ix tpos] e X.env = pure none := by rfl)
    (h1 : (assignEach [.Subscript (.Name x p1) ix tpos] X.env).map (·.2) = [assign (.Subscript (.Name x p1) ix tpos) X.env] := by rfl) :
    DS X (.Assign [.Subscript (.Name x p1) ix tpos] e pos) (setIF i g f) :=
  ps_imp (ps_asg he (pg_sub (pe_var hN hv hd hcd) hg set_list ha) hs hw h1) fun D' σ H ⟨H₀, Hf₀, ρ, Hf, o, R, q, k⟩ => by
    obtain ⟨y, e1, e2⟩ := bindV_some q
    obtain ⟨z, e3, e4⟩ := bindV_some e2
    split at e4
    · rename_i ds kk el
      cases hj : ixN ds.length kk with
      | none => rw [hj] at e4; cases e4
      | some j =>
        rw [hj] at e4
        cases e4
        refine ⟨H₀, Hf₀, ρ, Hf, y, R, e1, fun v H1 Hf1 R1 s1 t1 h1 => ?_⟩
        obtain ⟨a, p1, ⟨xs, p2, p3⟩, p4, p5⟩ := R1.ow i _ el rfl
        refine ⟨_, p1, H₀, Hf₀, ρ, Hf1, _, R1, e3, fun w H2 Hf2 R2 s2 t2 h2 => ?_⟩
        cases Has.int_iff.mp h2
        obtain ⟨a', r1, ⟨ys, r2, r3⟩, r4, r5⟩ := R2.ow i _ el rfl
        rw [p1] at r1; cases r1
        exact ⟨a, ys, kk, j, rfl, rfl, r2, by rw [r3.length]; exact hj, k _ _ _ (R2.updOwn el rfl p1 rfl ⟨_, upd_same, r3.set (h1.mono t2) j⟩) (t1.trans t2)⟩
    · cases e4
end
@[simp] theorem s_sliceX {f : FE} {l u : FP} {ρ : Rho} : sliceX f l u ρ = (f ρ).bind fun x => (l ρ).bind fun lo => (u ρ).bind fun hi => match x with
  | .tup ds => some (.tup (cutL ds lo hi))
  | .lst ds => some (.lst (cutL ds lo hi))
  | .str z => if z.length ≤ sizeLine then some (.str (cutS z lo hi)) else none
  | _ => none := rfl
@[simp] theorem s_seqX {f : FE} {ρ : Rho} : seqX f ρ = (f ρ).bind seqOfX := rfl
@[simp] theorem s_joinF {fj : FJ} {ρ : Rho} : joinF fj ρ = (fj ρ).bind fun zs => if (jn Str.empty zs).length ≤ sizeLine then some (.str (jn Str.empty zs)) else none := rfl
@[simp] theorem s_nilJ {ρ : Rho} : nilJ ρ = some [] := rfl
@[simp] theorem s_conJ {z : Str} {fj : FJ} {ρ : Rho} : conJ z fj ρ = (fj ρ).bind fun zs => some (z :: zs) := rfl
@[simp] theorem s_fmtJ {f : FE} {fj : FJ} {ρ : Rho} : fmtJ f fj ρ = (f ρ).bind fun d => (fmtD d).bind fun z => (fj ρ).bind fun zs => some (z :: zs) := rfl
@[simp] theorem s_setIF {i : Nat} {g f : FE} {ρ : Rho} : setIF i g f ρ = (f ρ).bind fun y => (g ρ).bind fun x => match ρ[i]?, x with
  | some (.ol ds), .int k => (ixN ds.length k).bind fun j => some (.nx (ρ.set i (.ol (ds.set j y))))
  | _, _ => none := rfl
@[simp] theorem s_ttD {φ : Str → Str → Int} {z y : Str} : ttD φ (.str z) (.str y) = some (.int (φ z y)) := rfl
end FL

set_option Elab.async false
set_option linter.all false
set_option maxRecDepth 100000
set_option maxHeartbeats 4000000
namespace TX
open PySem FL L2 PySem.NumText
abbrev cp (z : Str) : List Nat := z.cps.toList
theorem cp_app (a b : Str) : cp (a ++ b) = cp a ++ cp b := by
  show (a.cps ++ b.cps).toList = _
  simp
theorem cp_len (z : Str) : z.length = (cp z).length := by simp [Str.length]
theorem cp_ext {x y : Str} (h : cp x = cp y) : x = y := str_ext h
theorem cp_beq (x y : Str) : (x == y) = decide (cp x = cp y) := by
  by_cases h : cp x = cp y
  · rw [cp_ext h]; simp
  · have : x ≠ y := fun e => h (by rw [e])
    simp [h, this]
theorem cp_empty : cp Str.empty = [] := rfl
theorem cp_cut (z : Str) (lo hi : Option Int) : cp (cutS z lo hi) = cutL (cp z) lo hi := by
  show (cutL z.cps.toList lo hi).toArray.toList = _
  rw [List.toList_toArray]
theorem cut_to {α : Type} (xs : List α) (k : Nat) (h : k ≤ xs.length) : cutL xs none (some (k : Int)) = xs.take k := by
  unfold cutL
  rw [HT.sIx_nat, HT.sIx_none, Nat.min_eq_left h]
  simp
theorem cut_from {α : Type} (xs : List α) (k : Nat) (h : k ≤ xs.length) : cutL xs (some (k : Int)) none = xs.drop k := by
  unfold cutL
  rw [HT.sIx_nat, HT.sIx_none, Nat.min_eq_left h]
  rw [List.take_of_length_le (by simp)]
theorem sIx_m1 (n d : Nat) : HT.sIx n d (some (-1)) = n - 1 := by
  show (if (-1 : Int) < 0 then ((-1 : Int) + (n : Int)).toNat else min (-1 : Int).toNat n) = n - 1
  rw [if_pos (by decide)]
  omega
theorem cut_butlast {α : Type} (xs : List α) : cutL xs none (some (-1)) = xs.take (xs.length - 1) := by
  unfold cutL
  rw [sIx_m1, HT.sIx_none]
  simp
theorem cut_last {α : Type} (xs : List α) : cutL xs (some (-1)) none = xs.drop (xs.length - 1) := by
  unfold cutL
  rw [sIx_m1, HT.sIx_none]
  rw [List.take_of_length_le (by simp)]
theorem cut_mid1 {α : Type} (xs : List α) (k : Nat) (h : k ≤ xs.length) : cutL xs (some (k : Int)) (some (-1)) = (xs.drop k).take (xs.length - 1 - k) := by
  unfold cutL
  rw [sIx_m1, HT.sIx_nat, Nat.min_eq_left h]
theorem in_one (c : Nat) (z : Str) : inS ⟨#[c]⟩ z = decide (c ∈ cp z) := StrLaws.found_one z c
def dg (m : Nat) : List Nat := (Nat.toDigits 10 m).map Char.toNat
theorem dg_lt {m : Nat} (h : m < 10) : dg m = [48 + m] := by
  unfold dg
  rw [Nat.toDigits_of_lt_base h]
  have : ∀ d : Nat, d < 10 → (Nat.digitChar d).toNat = 48 + d := by decide
  simp [this m h]
theorem dg_ge {m : Nat} (h : ¬ m < 10) : dg m = dg (m / 10) ++ [48 + m % 10] := by
  have hm : m % 10 < 10 := Nat.mod_lt m (by decide)
  have t : Nat.toDigits 10 (m / 10) ++ Nat.toDigits 10 (m % 10) = Nat.toDigits 10 (10 * (m / 10) + m % 10) := Nat.toDigits_append_toDigits (by decide) (by omega) hm
  rw [Nat.div_add_mod] at t
  have e := dg_lt hm
  unfold dg at e ⊢
  rw [← t, List.map_append, e]
theorem dg_ne (m : Nat) : dg m ≠ [] := by
  by_cases h : m < 10
  · rw [dg_lt h]; simp
  · rw [dg_ge h]; simp
theorem dg_all (m : Nat) : AllDigits (dg m) := by
  induction m using Nat.strongRecOn with
  | _ m ih =>
    by_cases h : m < 10
    · rw [dg_lt h]
      intro c hc
      have : c = 48 + m := by simpa using hc
      omega
    · rw [dg_ge h]
      intro c hc
      rcases List.mem_append.mp hc with h1 | h1
      · exact ih (m / 10) (by omega) c h1
      · have : c = 48 + m % 10 := by simpa using h1
        omega
theorem dg_val (m : Nat) : digitsVal (dg m) = m := PySem.W.KIN.val_back m
theorem dg_head {m : Nat} (h0 : m ≠ 0) : ∃ c r, dg m = c :: r ∧ 49 ≤ c ∧ c ≤ 57 := by
  induction m using Nat.strongRecOn with
  | _ m ih =>
    by_cases h : m < 10
    · exact ⟨_, _, dg_lt h, by omega, by omega⟩
    · obtain ⟨c, r, e, h1, h2⟩ := ih (m / 10) (by omega) (by omega)
      exact ⟨c, r ++ [48 + m % 10], by rw [dg_ge h, e]; rfl, h1, h2⟩
theorem dg_len {k : Nat} : ∀ {m : Nat}, m < 10 ^ (k + 1) → (dg m).length ≤ k + 1 := by
  induction k with
  | zero => intro m h; rw [dg_lt (by simpa using h)]; simp
  | succ k ih =>
    intro m h
    by_cases h1 : m < 10
    · rw [dg_lt h1]; simp
    · rw [dg_ge h1, List.length_append]
      have := ih (m := m / 10) (by rw [Nat.pow_succ] at h; omega)
      simp
      omega
def si (i : Int) : Str := Str.ofString (toString i)
theorem si_nn {i : Int} (h : 0 ≤ i) : cp (si i) = dg i.natAbs := by
  obtain ⟨m, rfl⟩ := Int.eq_ofNat_of_zero_le h
  exact PySem.W.KIN.signs_num m
theorem si_neg {i : Int} (h : i < 0) : cp (si i) = 45 :: dg i.natAbs := by
  obtain ⟨m, rfl⟩ := Int.eq_negSucc_of_lt_zero h
  show (Str.ofString (toString (Int.negSucc m))).cps.toList = _
  rw [PyProof.Rows.signs_ofString]
  show ("-" ++ Nat.repr (m + 1)).toList.map Char.toNat = _
  rw [String.toList_append, Nat.toList_repr, List.map_append]
  rfl
theorem int_dg (z : Str) (m : Nat) (h : cp z = dg m) (hl : (dg m).length ≤ 640) : intX [.str z] = some (.int (m : Int)) := by
  have h2 : z.length ≤ 640 := by rw [cp_len, h]; exact hl
  show (if z.length ≤ 640 then (PySem.intText? z).map D.int else none) = _
  rw [if_pos h2, intText_digits (by show AllDigits (cp z); rw [h]; exact dg_all m) (by show cp z ≠ []; rw [h]; exact dg_ne m) (by omega)]
  show some (D.int ((digitsVal (cp z) : Nat) : Int)) = _
  rw [h, dg_val]
theorem rf_none (z : Str) (c : Nat) (h : c ∉ cp z) : Txt.rfind z ⟨#[c]⟩ = -1 := by
  rcases PyProof.Rows.rfind_whole z ⟨#[c]⟩ with ⟨h0, _⟩ | ⟨i, _, h1, _⟩
  · exact h0
  · exact absurd (List.mem_of_getElem? ((StrLaws.subAt_one z c i).mp h1)) h
theorem rf_some (z : Str) (c : Nat) (a b : List Nat) (h : cp z = a ++ c :: b) (hb : c ∉ b) : Txt.rfind z ⟨#[c]⟩ = (a.length : Int) := by
  have hat : (cp z)[a.length]? = some c := by rw [h]; simp
  rcases PyProof.Rows.rfind_whole z ⟨#[c]⟩ with ⟨_, h1⟩ | ⟨i, h0, h1, h2⟩
  · exact absurd ((StrLaws.subAt_one z c a.length).mpr hat) (h1 a.length)
  · rw [h0]
    have hi := (StrLaws.subAt_one z c i).mp h1
    have : i = a.length := by
      rcases Nat.lt_trichotomy i a.length with hlt | heq | hgt
      · exact absurd ((StrLaws.subAt_one z c a.length).mpr hat) (h2 a.length hlt)
      · exact heq
      · exfalso
        have hi' : (cp z)[i]? = some c := hi
        rw [h, List.getElem?_append_right (by omega)] at hi'
        obtain ⟨j, hj⟩ : ∃ j, i - a.length = j + 1 := ⟨i - a.length - 1, by omega⟩
        rw [hj, List.getElem?_cons_succ] at hi'
        exact hb (List.mem_of_getElem? hi')
    rw [this]
end TX

namespace Pk03
open PySem PySem.Spec PyProof.Rows L2 FL
def top (i : Nat) : Stmt := PySem.Challenge.pw_mirrorhouse_k03_numbers_shown.main.body.getD i (.Pass ⟨0, 0, 0, 0⟩)
abbrev s_shown_golden_part : Stmt := top 1
abbrev s_shown_number : Stmt := top 2
abbrev s_l_at : Stmt := top 4
abbrev s_l_mix : Stmt := top 5
abbrev s_l_number : Stmt := top 6
abbrev s_l_times_g : Stmt := top 7
abbrev s_l_text : Stmt := top 8
abbrev s_l_value : Stmt := top 9
abbrev s_l_read : Stmt := top 10
abbrev s_law : Stmt := top 11
structure Txt (K : PySem.W.Frag) (mg : Str → Option Value) : Prop where
  base : True
  int_b : mg "int" = none
  isinstance_b : mg "isinstance" = none
  len_b : mg "len" = none
  max_b : mg "max" = none
  str_b : mg "str" = none
noncomputable def F_shown_golden_part : FS := (seqF (ifS (blF (bind2 eqF (vF 0) (cF (.int 1)))) (retF (cF (.str "g"))) nxF) (seqF (ifS (blF (bind2 eqF (vF 0) (bind1 negD (cF (.int 1))))) (retF (cF (.str "-g"))) nxF) (retF (joinF (fmtJ (vF 0) (conJ "g" nilJ))))))
noncomputable def g_shown_golden_part : List D → Option D := denF 1 F_shown_golden_part
theorem sc_shown_golden_part : FnScope ["number"] ["number"] (defScope s_shown_golden_part) := ⟨rfl, rfl, rfl, by decide +kernel, rfl, by decide +kernel, by decide +kernel⟩
theorem ok_shown_golden_part {P : Program} {w : World} {K : PySem.W.Frag} {mg : Str → Option Value} {base : Heap} {f : Addr} {fd : FuncData} (Fn : Fun K "shown_golden_part" "shown_golden_part" s_shown_golden_part f fd) (T : Txt K mg)  :
    FnOk P w K mg base CX0 1 f fd ["number"] (spF K 1 g_shown_golden_part) :=
  fn_den (k := 0) (m := 1) (F := F_shown_golden_part) rfl rfl Fn sc_shown_golden_part fun cdv A outer s H E hr => (dss_cons (ds_if (dt_eq hr (DE.dr (dv 0)) (DE.dr d_int)) (dss_one (ds_ret d_str)) dss_nil) (dss_cons (ds_if (dt_eq hr (DE.dr (dv 0)) (DE.dr (d_neg (DE.dr d_int)))) (dss_one (ds_ret d_str)) dss_nil) (dss_one (ds_ret (d_join (dj_fmt (DE.dr (dv 0)) (dj_con dj_nil)))))))
noncomputable def F_shown_number : FS := (seqF (ifS (blF (bind2 eqF (bind2 ixD (vF 0) (cF (.int 1))) (cF (.int 0)))) (retF (appF strD (consA (bind2 ixD (vF 0) (cF (.int 0))) nilA))) nxF) (seqF (asgF 1 (appF g_shown_golden_part (consA (bind2 ixD (vF 0) (cF (.int 1))) nilA))) (seqF (ifS (blF (bind2 eqF (bind2 ixD (vF 0) (cF (.int 0))) (cF (.int 0)))) (retF (vF 1)) nxF) (seqF (asgF 2 (ifF (blF (bind2 gtD (bind2 ixD (vF 0) (cF (.int 1))) (cF (.int 0)))) (cF (.str "+")) (cF (.str "")))) (retF (bind2 addX (bind2 addX (appF strD (consA (bind2 ixD (vF 0) (cF (.int 0))) nilA)) (vF 2)) (vF 1)))))))
noncomputable def g_shown_number : List D → Option D := denF 3 F_shown_number
theorem sc_shown_number : FnScope ["x", "golden", "between"] ["x"] (defScope s_shown_number) := ⟨rfl, rfl, rfl, by decide +kernel, rfl, by decide +kernel, by decide +kernel⟩
theorem ok_shown_number {P : Program} {w : World} {K : PySem.W.Frag} {mg : Str → Option Value} {base : Heap} {f : Addr} {fd : FuncData} (Fn : Fun K "shown_number" "shown_number" s_shown_number f fd) (T : Txt K mg) (h_shown_golden_part : HasFn P w K mg base 1 "shown_golden_part" 1 g_shown_golden_part) :
    FnOk P w K mg base CX0 2 f fd ["x"] (spF K 1 g_shown_number) :=
  fn_den (k := 1) (m := 3) (F := F_shown_number) rfl rfl Fn sc_shown_number fun cdv A outer s H E hr => (dss_cons (ds_if (dt_eq hr (DE.dr (d_ix (DE.dr (dv 0)) (DE.dr d_int))) (DE.dr d_int)) (dss_one (ds_ret (d_callTy call_str_int fnR_str rfl T.str_b (by rfl) (dar_cons (DE.dr (d_ix (DE.dr (dv 0)) (DE.dr d_int))) dar_nil)))) dss_nil) (dss_cons (ds_asg 1 sc_shown_number.nd (d_callH h_shown_golden_part (hr.mono (by decide)) rfl (da_cons (d_ix (DE.dr (dv 0)) (DE.dr d_int)) da_nil) (lenAS lenA0))) (dss_cons (ds_if (dt_eq hr (DE.dr (d_ix (DE.dr (dv 0)) (DE.dr d_int))) (DE.dr d_int)) (dss_one (ds_ret (dv 1))) dss_nil) (dss_cons (ds_asg 2 sc_shown_number.nd (d_ifExp (dt_gt (DE.dr (d_ix (DE.dr (dv 0)) (DE.dr d_int))) (DE.dr d_int)) d_str d_str)) (dss_one (ds_ret (d_addX (DE.dr (d_addX (DE.dr (d_callTy call_str_int fnR_str rfl T.str_b (by rfl) (dar_cons (DE.dr (d_ix (DE.dr (dv 0)) (DE.dr d_int))) dar_nil))) (DE.dr (dv 2)))) (DE.dr (dv 1)))))))))
noncomputable def F_l_at : FS := (seqF (ifS (blF (bind2 ltD (vF 1) (appF lenD (consA (vF 0) nilA)))) (retF (bind2 ixD (vF 0) (vF 1))) nxF) (retF (bind2 addX (bind2 mulD (cF (.int 17)) (vF 1)) (cF (.int 9)))))
noncomputable def g_l_at : List D → Option D := denF 2 F_l_at
theorem sc_l_at : FnScope ["_law_script", "_law_k"] ["_law_script", "_law_k"] (defScope s_l_at) := ⟨rfl, rfl, rfl, by decide +kernel, rfl, by decide +kernel, by decide +kernel⟩
theorem ok_l_at {P : Program} {w : World} {K : PySem.W.Frag} {mg : Str → Option Value} {base : Heap} {f : Addr} {fd : FuncData} (Fn : Fun K "_law_at" "_law_at" s_l_at f fd) (T : Txt K mg)  :
    FnOk P w K mg base CX0 1 f fd ["_law_script", "_law_k"] (spF K 2 g_l_at) :=
  fn_den (k := 0) (m := 2) (F := F_l_at) rfl rfl Fn sc_l_at fun cdv A outer s H E hr => (dss_cons (ds_if (dt_lt (DE.dr (dv 1)) (DE.dr (d_callB call_lenG fnR_len rfl T.len_b (by rfl) (dar_cons (DE.dr (dv 0)) dar_nil)))) (dss_one (ds_ret (d_ix (DE.dr (dv 0)) (DE.dr (dv 1))))) dss_nil) (dss_one (ds_ret (d_addX (DE.dr (d_mul (DE.dr d_int) (DE.dr (dv 1)))) (DE.dr d_int)))))
noncomputable def F_l_mix : FS := (seqF (asgF 2 (bind2 modD (bind2 mulD (bind2 addX (bind2 addX (bind2 modD (vF 0) (cF (.int 2147483629))) (vF 1)) (cF (.int 1))) (bind2 addX (bind2 mulD (bind2 mulD (cF (.int 8)) (vF 1)) (vF 1)) (cF (.int 48271)))) (cF (.int 2147483647)))) (retF (bind2 modD (bind2 mulD (vF 2) (vF 2)) (cF (.int 2147483587)))))
noncomputable def g_l_mix : List D → Option D := denF 3 F_l_mix
theorem sc_l_mix : FnScope ["_law_number_here", "_law_place", "_law_part"] ["_law_number_here", "_law_place"] (defScope s_l_mix) := ⟨rfl, rfl, rfl, by decide +kernel, rfl, by decide +kernel, by decide +kernel⟩
theorem ok_l_mix {P : Program} {w : World} {K : PySem.W.Frag} {mg : Str → Option Value} {base : Heap} {f : Addr} {fd : FuncData} (Fn : Fun K "_law_mix" "_law_mix" s_l_mix f fd) (T : Txt K mg)  :
    FnOk P w K mg base CX0 1 f fd ["_law_number_here", "_law_place"] (spF K 2 g_l_mix) :=
  fn_den (k := 0) (m := 3) (F := F_l_mix) rfl rfl Fn sc_l_mix fun cdv A outer s H E hr => (dss_cons (ds_asg 2 sc_l_mix.nd (d_mod (DE.dr (d_mul (DE.dr (d_addX (DE.dr (d_addX (DE.dr (d_mod (DE.dr (dv 0)) (DE.dr d_int))) (DE.dr (dv 1)))) (DE.dr d_int))) (DE.dr (d_addX (DE.dr (d_mul (DE.dr (d_mul (DE.dr d_int) (DE.dr (dv 1)))) (DE.dr (dv 1)))) (DE.dr d_int))))) (DE.dr d_int))) (dss_one (ds_ret (d_mod (DE.dr (d_mul (DE.dr (dv 2)) (DE.dr (dv 2)))) (DE.dr d_int)))))
noncomputable def F_l_number : FS := (seqF (asgF 1 (appF g_l_mix (consA (appF g_l_at (consA (vF 0) (consA (cF (.int 0)) nilA))) (consA (cF (.int 1)) nilA)))) (seqF (asgF 2 (mapLst (lstF (consA (cF (.int 0)) (consA (cF (.int 1)) (consA (bind2 subD (cF (.int 0)) (cF (.int 1))) (consA (bind2 subD (bind2 modD (bind2 fdivD (vF 1) (cF (.int 9))) (cF (.int 41))) (cF (.int 20))) nilA))))))) (seqF (asgN 3 (lstF (consA (bind2 ixD (vF 2) (bind2 modD (bind2 fdivD (vF 1) (cF (.int 400))) (cF (.int 4)))) (consA (bind2 ixD (vF 2) (bind2 modD (bind2 fdivD (vF 1) (cF (.int 1600))) (cF (.int 4)))) nilA)))) (seqF (asgF 4 (bind2 subD (bind2 mulD (cF (.int 2)) (bind2 powD (bind2 powD (cF (.int 10)) (cF (.int 50))) (cF (.int 4)))) (cF (.int 1)))) (seqF (ifS (blF (bind2 eqF (bind2 modD (vF 1) (cF (.int 3))) (cF (.int 0)))) (setIF 3 (bind2 modD (bind2 fdivD (vF 1) (cF (.int 3))) (cF (.int 2))) (bind2 addX (bind2 subD (bind2 modD (appF g_l_at (consA (vF 0) (consA (cF (.int 1)) nilA))) (vF 4)) (bind2 powD (bind2 powD (cF (.int 10)) (cF (.int 50))) (cF (.int 4)))) (cF (.int 1)))) nxF) (seqF (ifS (blF (bind2 eqF (bind2 modD (vF 1) (cF (.int 9))) (cF (.int 0)))) (asgN 3 (lstF (consA (bind2 addX (bind2 subD (bind2 modD (appF g_l_at (consA (vF 0) (consA (cF (.int 1)) nilA))) (vF 4)) (bind2 powD (bind2 powD (cF (.int 10)) (cF (.int 50))) (cF (.int 4)))) (cF (.int 1))) (consA (bind2 addX (bind2 subD (bind2 modD (appF g_l_at (consA (vF 0) (consA (cF (.int 2)) nilA))) (vF 4)) (bind2 powD (bind2 powD (cF (.int 10)) (cF (.int 50))) (cF (.int 4)))) (cF (.int 1))) nilA)))) nxF) (retF (tupF (consA (bind2 ixD (vR 3) (cF (.int 0))) (consA (bind2 ixD (vR 3) (cF (.int 1))) nilA))))))))))
noncomputable def g_l_number : List D → Option D := denF 5 F_l_number
theorem sc_l_number : FnScope ["_law_script", "_law_number_here", "_law_some", "_law_x", "_law_most"] ["_law_script"] (defScope s_l_number) := ⟨rfl, rfl, rfl, by decide +kernel, rfl, by decide +kernel, by decide +kernel⟩
theorem ok_l_number {P : Program} {w : World} {K : PySem.W.Frag} {mg : Str → Option Value} {base : Heap} {f : Addr} {fd : FuncData} (Fn : Fun K "_law_number" "_law_number" s_l_number f fd) (T : Txt K mg) (h_l_at : HasFn P w K mg base 1 "_law_at" 2 g_l_at) (h_l_mix : HasFn P w K mg base 1 "_law_mix" 2 g_l_mix) :
    FnOk P w K mg base CX0 2 f fd ["_law_script"] (spF K 1 g_l_number) :=
  fn_den (k := 1) (m := 5) (F := F_l_number) rfl rfl Fn sc_l_number fun cdv A outer s H E hr => (dss_cons (ds_asg 1 sc_l_number.nd (d_callH h_l_mix (hr.mono (by decide)) rfl (da_cons (d_callH h_l_at (hr.mono (by decide)) rfl (da_cons (dv 0) (da_cons d_int da_nil)) (lenAS (lenAS lenA0))) (da_cons d_int da_nil)) (lenAS (lenAS lenA0)))) (dss_cons (ds_asg 2 sc_l_number.nd (DN.de (dn_lst (da_cons d_int (da_cons d_int (da_cons (d_sub (DE.dr d_int) (DE.dr d_int)) (da_cons (d_sub (DE.dr (d_mod (DE.dr (d_fdiv (DE.dr (dv 1)) (DE.dr d_int))) (DE.dr d_int))) (DE.dr d_int)) da_nil))))))) (dss_cons (ds_asgN 3 sc_l_number.nd (dn_lst (da_cons (d_ix (DE.dr (dv 2)) (DE.dr (d_mod (DE.dr (d_fdiv (DE.dr (dv 1)) (DE.dr d_int))) (DE.dr d_int)))) (da_cons (d_ix (DE.dr (dv 2)) (DE.dr (d_mod (DE.dr (d_fdiv (DE.dr (dv 1)) (DE.dr d_int))) (DE.dr d_int)))) da_nil)))) (dss_cons (ds_asg 4 sc_l_number.nd (d_sub (DE.dr (d_mul (DE.dr d_int) (DE.dr (d_pow (DE.dr (d_pow (DE.dr d_int) (DE.dr d_int))) (DE.dr d_int))))) (DE.dr d_int))) (dss_cons (ds_if (dt_eq hr (DE.dr (d_mod (DE.dr (dv 1)) (DE.dr d_int))) (DE.dr d_int)) (dss_one (ds_setI 3 (d_addX (DE.dr (d_sub (DE.dr (d_mod (DE.dr (d_callH h_l_at (hr.mono (by decide)) rfl (da_cons (dv 0) (da_cons d_int da_nil)) (lenAS (lenAS lenA0)))) (DE.dr (dv 4)))) (DE.dr (d_pow (DE.dr (d_pow (DE.dr d_int) (DE.dr d_int))) (DE.dr d_int))))) (DE.dr d_int)) (d_mod (DE.dr (d_fdiv (DE.dr (dv 1)) (DE.dr d_int))) (DE.dr d_int)))) dss_nil) (dss_cons (ds_if (dt_eq hr (DE.dr (d_mod (DE.dr (dv 1)) (DE.dr d_int))) (DE.dr d_int)) (dss_one (ds_asgN 3 sc_l_number.nd (dn_lst (da_cons (d_addX (DE.dr (d_sub (DE.dr (d_mod (DE.dr (d_callH h_l_at (hr.mono (by decide)) rfl (da_cons (dv 0) (da_cons d_int da_nil)) (lenAS (lenAS lenA0)))) (DE.dr (dv 4)))) (DE.dr (d_pow (DE.dr (d_pow (DE.dr d_int) (DE.dr d_int))) (DE.dr d_int))))) (DE.dr d_int)) (da_cons (d_addX (DE.dr (d_sub (DE.dr (d_mod (DE.dr (d_callH h_l_at (hr.mono (by decide)) rfl (da_cons (dv 0) (da_cons d_int da_nil)) (lenAS (lenAS lenA0)))) (DE.dr (dv 4)))) (DE.dr (d_pow (DE.dr (d_pow (DE.dr d_int) (DE.dr d_int))) (DE.dr d_int))))) (DE.dr d_int)) da_nil))))) dss_nil) (dss_one (ds_ret (d_tup (da_cons (d_ix (dvr 3) (DE.dr d_int)) (da_cons (d_ix (dvr 3) (DE.dr d_int)) da_nil)))))))))))
noncomputable def F_l_times_g : FS := (seqF (ifS (blF (bind2 eqF (vF 0) (cF (.int 1)))) (retF (cF (.str "g"))) nxF) (seqF (ifS (blF (bind2 eqF (vF 0) (bind2 subD (cF (.int 0)) (cF (.int 1))))) (retF (cF (.str "-g"))) nxF) (retF (bind2 addX (appF strD (consA (vF 0) nilA)) (cF (.str "g"))))))
noncomputable def g_l_times_g : List D → Option D := denF 1 F_l_times_g
theorem sc_l_times_g : FnScope ["_law_many"] ["_law_many"] (defScope s_l_times_g) := ⟨rfl, rfl, rfl, by decide +kernel, rfl, by decide +kernel, by decide +kernel⟩
theorem ok_l_times_g {P : Program} {w : World} {K : PySem.W.Frag} {mg : Str → Option Value} {base : Heap} {f : Addr} {fd : FuncData} (Fn : Fun K "_law_times_g" "_law_times_g" s_l_times_g f fd) (T : Txt K mg)  :
    FnOk P w K mg base CX0 1 f fd ["_law_many"] (spF K 1 g_l_times_g) :=
  fn_den (k := 0) (m := 1) (F := F_l_times_g) rfl rfl Fn sc_l_times_g fun cdv A outer s H E hr => (dss_cons (ds_if (dt_eq hr (DE.dr (dv 0)) (DE.dr d_int)) (dss_one (ds_ret d_str)) dss_nil) (dss_cons (ds_if (dt_eq hr (DE.dr (dv 0)) (DE.dr (d_sub (DE.dr d_int) (DE.dr d_int)))) (dss_one (ds_ret d_str)) dss_nil) (dss_one (ds_ret (d_addX (DE.dr (d_callTy call_str_int fnR_str rfl T.str_b (by rfl) (dar_cons (DE.dr (dv 0)) dar_nil))) (DE.dr d_str))))))
noncomputable def F_l_text : FS := (seqF (ifS (blF (bind2 eqF (bind2 ixD (vF 0) (cF (.int 1))) (cF (.int 0)))) (retF (appF strD (consA (bind2 ixD (vF 0) (cF (.int 0))) nilA))) nxF) (seqF (ifS (blF (bind2 eqF (bind2 ixD (vF 0) (cF (.int 0))) (cF (.int 0)))) (retF (appF g_l_times_g (consA (bind2 ixD (vF 0) (cF (.int 1))) nilA))) nxF) (seqF (ifS (blF (bind2 gtD (bind2 ixD (vF 0) (cF (.int 1))) (cF (.int 0)))) (retF (bind2 addX (bind2 addX (appF strD (consA (bind2 ixD (vF 0) (cF (.int 0))) nilA)) (cF (.str "+"))) (appF g_l_times_g (consA (bind2 ixD (vF 0) (cF (.int 1))) nilA)))) nxF) (retF (bind2 addX (appF strD (consA (bind2 ixD (vF 0) (cF (.int 0))) nilA)) (appF g_l_times_g (consA (bind2 ixD (vF 0) (cF (.int 1))) nilA)))))))
noncomputable def g_l_text : List D → Option D := denF 1 F_l_text
theorem sc_l_text : FnScope ["_law_x"] ["_law_x"] (defScope s_l_text) := ⟨rfl, rfl, rfl, by decide +kernel, rfl, by decide +kernel, by decide +kernel⟩
theorem ok_l_text {P : Program} {w : World} {K : PySem.W.Frag} {mg : Str → Option Value} {base : Heap} {f : Addr} {fd : FuncData} (Fn : Fun K "_law_text" "_law_text" s_l_text f fd) (T : Txt K mg) (h_l_times_g : HasFn P w K mg base 1 "_law_times_g" 1 g_l_times_g) :
    FnOk P w K mg base CX0 2 f fd ["_law_x"] (spF K 1 g_l_text) :=
  fn_den (k := 1) (m := 1) (F := F_l_text) rfl rfl Fn sc_l_text fun cdv A outer s H E hr => (dss_cons (ds_if (dt_eq hr (DE.dr (d_ix (DE.dr (dv 0)) (DE.dr d_int))) (DE.dr d_int)) (dss_one (ds_ret (d_callTy call_str_int fnR_str rfl T.str_b (by rfl) (dar_cons (DE.dr (d_ix (DE.dr (dv 0)) (DE.dr d_int))) dar_nil)))) dss_nil) (dss_cons (ds_if (dt_eq hr (DE.dr (d_ix (DE.dr (dv 0)) (DE.dr d_int))) (DE.dr d_int)) (dss_one (ds_ret (d_callH h_l_times_g (hr.mono (by decide)) rfl (da_cons (d_ix (DE.dr (dv 0)) (DE.dr d_int)) da_nil) (lenAS lenA0)))) dss_nil) (dss_cons (ds_if (dt_gt (DE.dr (d_ix (DE.dr (dv 0)) (DE.dr d_int))) (DE.dr d_int)) (dss_one (ds_ret (d_addX (DE.dr (d_addX (DE.dr (d_callTy call_str_int fnR_str rfl T.str_b (by rfl) (dar_cons (DE.dr (d_ix (DE.dr (dv 0)) (DE.dr d_int))) dar_nil))) (DE.dr d_str))) (DE.dr (d_callH h_l_times_g (hr.mono (by decide)) rfl (da_cons (d_ix (DE.dr (dv 0)) (DE.dr d_int)) da_nil) (lenAS lenA0)))))) dss_nil) (dss_one (ds_ret (d_addX (DE.dr (d_callTy call_str_int fnR_str rfl T.str_b (by rfl) (dar_cons (DE.dr (d_ix (DE.dr (dv 0)) (DE.dr d_int))) dar_nil))) (DE.dr (d_callH h_l_times_g (hr.mono (by decide)) rfl (da_cons (d_ix (DE.dr (dv 0)) (DE.dr d_int)) da_nil) (lenAS lenA0)))))))))
noncomputable def F_l_value : FS := (seqF (ifS (orT (blF (bind2 eqF (vF 0) (cF (.str "")))) (blF (bind2 eqF (vF 0) (cF (.str "+"))))) (retF (cF (.int 1))) nxF) (seqF (ifS (blF (bind2 eqF (vF 0) (cF (.str "-")))) (retF (bind2 subD (cF (.int 0)) (cF (.int 1)))) nxF) (seqF (asgF 1 (vF 0)) (seqF (ifS (blF (bind2 (inD false) (bind2 ixD (vF 0) (cF (.int 0))) (cF (.str "+-")))) (asgF 1 (sliceX (vF 0) (exP (cF (.int 1))) noP)) nxF) (seqF (forF (seqX (vF 1)) (nameG 2) (ifS (blF (bind2 (inD true) (vF 2) (cF (.str "0123456789")))) (retF (cF .non)) nxF)) (seqF (ifS (orT (blF (bind2 eqF (vF 1) (cF (.str "")))) (andT (blF (bind2 eqF (bind2 ixD (vF 1) (cF (.int 0))) (cF (.str "0")))) (blF (bind2 neF (vF 1) (cF (.str "0")))))) (retF (cF .non)) nxF) (retF (bind2 mulD (appF intX (consA (vF 1) nilA)) (bind2 ixD (mapLst (lstF (consA (cF (.int 1)) (consA (bind2 subD (cF (.int 0)) (cF (.int 1))) nilA)))) (appF intX (consA (bind2 eqF (bind2 ixD (vF 0) (cF (.int 0))) (cF (.str "-"))) nilA)))))))))))
noncomputable def g_l_value : List D → Option D := denF 3 F_l_value
theorem sc_l_value : FnScope ["_law_written", "_law_figures", "_law_one"] ["_law_written"] (defScope s_l_value) := ⟨rfl, rfl, rfl, by decide +kernel, rfl, by decide +kernel, by decide +kernel⟩
theorem ok_l_value {P : Program} {w : World} {K : PySem.W.Frag} {mg : Str → Option Value} {base : Heap} {f : Addr} {fd : FuncData} (Fn : Fun K "_law_value" "_law_value" s_l_value f fd) (T : Txt K mg)  :
    FnOk P w K mg base CX0 1 f fd ["_law_written"] (spF K 1 g_l_value) :=
  fn_den (k := 0) (m := 3) (F := F_l_value) rfl rfl Fn sc_l_value fun cdv A outer s H E hr => (dss_cons (ds_if (DW.dt (dw_or (dt_eq hr (DE.dr (dv 0)) (DE.dr d_str)) (dw_or1 (dt_eq hr (DE.dr (dv 0)) (DE.dr d_str))))) (dss_one (ds_ret d_int)) dss_nil) (dss_cons (ds_if (dt_eq hr (DE.dr (dv 0)) (DE.dr d_str)) (dss_one (ds_ret (d_sub (DE.dr d_int) (DE.dr d_int)))) dss_nil) (dss_cons (ds_asg 1 sc_l_value.nd (dv 0)) (dss_cons (ds_if (dt_in hr (DE.dr (d_ix (DE.dr (dv 0)) (DE.dr d_int))) (DE.dr d_str)) (dss_one (ds_asg 1 sc_l_value.nd (d_sliceX (DE.dr (dv 0)) (dp_ex (DE.dr d_int)) dp_no))) dss_nil) (dss_cons (ds_for PassesOwn.never rfl (di_seqX (dv 1)) (dg_name 2 sc_l_value.nd) (dss_one (ds_if (dt_notin hr (DE.dr (dv 2)) (DE.dr d_str)) (dss_one (ds_ret d_non)) dss_nil))) (dss_cons (ds_if (DW.dt (dw_or (dt_eq hr (DE.dr (dv 1)) (DE.dr d_str)) (dw_or1 (DW.dt (dw_and (dt_eq hr (DE.dr (d_ix (DE.dr (dv 1)) (DE.dr d_int))) (DE.dr d_str)) (dw_and1 (dt_ne hr (DE.dr (dv 1)) (DE.dr d_str)))))))) (dss_one (ds_ret d_non)) dss_nil) (dss_one (ds_ret (d_mul (DE.dr (d_callTy call_intX fnR_intX rfl T.int_b (by rfl) (dar_cons (DE.dr (dv 1)) dar_nil))) (DE.dr (d_ix (DE.dr (DN.de (dn_lst (da_cons d_int (da_cons (d_sub (DE.dr d_int) (DE.dr d_int)) da_nil))))) (DE.dr (d_callTy call_intX fnR_intX rfl T.int_b (by rfl) (dar_cons (DE.dr (d_eq hr (DE.dr (d_ix (DE.dr (dv 0)) (DE.dr d_int))) (DE.dr d_str))) dar_nil))))))))))))))
noncomputable def F_l_read : FS := (seqF (ifS (blF (bind2 neF (sliceX (vF 0) (exP (bind1 negD (cF (.int 1)))) noP) (cF (.str "g")))) (retF (tupF (consA (appF g_l_value (consA (vF 0) nilA)) (consA (cF (.int 0)) nilA)))) nxF) (seqF (asgF 1 (appF maxD (consA (bind2 (ttD Txt.rfind) (vF 0) (cF (.str "+"))) (consA (bind2 (ttD Txt.rfind) (vF 0) (cF (.str "-"))) nilA)))) (seqF (ifS (blF (bind2 leD (vF 1) (cF (.int 0)))) (retF (tupF (consA (cF (.int 0)) (consA (appF g_l_value (consA (sliceX (vF 0) noP (exP (bind1 negD (cF (.int 1))))) nilA)) nilA)))) nxF) (retF (tupF (consA (appF g_l_value (consA (sliceX (vF 0) noP (exP (vF 1))) nilA)) (consA (appF g_l_value (consA (sliceX (vF 0) (exP (vF 1)) (exP (bind1 negD (cF (.int 1))))) nilA)) nilA)))))))
noncomputable def g_l_read : List D → Option D := denF 2 F_l_read
theorem sc_l_read : FnScope ["_law_written", "_law_cut"] ["_law_written"] (defScope s_l_read) := ⟨rfl, rfl, rfl, by decide +kernel, rfl, by decide +kernel, by decide +kernel⟩
theorem ok_l_read {P : Program} {w : World} {K : PySem.W.Frag} {mg : Str → Option Value} {base : Heap} {f : Addr} {fd : FuncData} (Fn : Fun K "_law_read" "_law_read" s_l_read f fd) (T : Txt K mg) (h_l_value : HasFn P w K mg base 1 "_law_value" 1 g_l_value) :
    FnOk P w K mg base CX0 2 f fd ["_law_written"] (spF K 1 g_l_read) :=
  fn_den (k := 1) (m := 2) (F := F_l_read) rfl rfl Fn sc_l_read fun cdv A outer s H E hr => (dss_cons (ds_if (dt_ne hr (DE.dr (d_sliceX (DE.dr (dv 0)) (dp_ex (DE.dr (d_neg (DE.dr d_int)))) dp_no)) (DE.dr d_str)) (dss_one (ds_ret (d_tup (da_cons (d_callH h_l_value (hr.mono (by decide)) rfl (da_cons (dv 0) da_nil) (lenAS lenA0)) (da_cons d_int da_nil))))) dss_nil) (dss_cons (ds_asg 1 sc_l_read.nd (d_callB (call_max2 rfl) fnR_max rfl T.max_b (by rfl) (dar_cons (DE.dr (d_rfind (dv 0) d_str)) (dar_cons (DE.dr (d_rfind (dv 0) d_str)) dar_nil)))) (dss_cons (ds_if (dt_le (DE.dr (dv 1)) (DE.dr d_int)) (dss_one (ds_ret (d_tup (da_cons d_int (da_cons (d_callH h_l_value (hr.mono (by decide)) rfl (da_cons (d_sliceX (DE.dr (dv 0)) dp_no (dp_ex (DE.dr (d_neg (DE.dr d_int))))) da_nil) (lenAS lenA0)) da_nil))))) dss_nil) (dss_one (ds_ret (d_tup (da_cons (d_callH h_l_value (hr.mono (by decide)) rfl (da_cons (d_sliceX (DE.dr (dv 0)) dp_no (dp_ex (DE.dr (dv 1)))) da_nil) (lenAS lenA0)) (da_cons (d_callH h_l_value (hr.mono (by decide)) rfl (da_cons (d_sliceX (DE.dr (dv 0)) (dp_ex (DE.dr (dv 1))) (dp_ex (DE.dr (d_neg (DE.dr d_int))))) da_nil) (lenAS lenA0)) da_nil))))))))
noncomputable def F_law : FS := (seqF (asgF 1 (appF g_l_number (consA (vF 0) nilA))) (seqF (asgF 2 (appF g_shown_number (consA (vF 1) nilA))) (retF (andV (bind1 (isTy "str") (vF 2)) (andV (bind2 eqF (vF 2) (appF g_l_text (consA (vF 1) nilA))) (bind2 eqF (appF g_l_read (consA (vF 2) nilA)) (vF 1)))))))
noncomputable def g_law : List D → Option D := denF 3 F_law
theorem sc_law : FnScope ["_law_script", "_law_x", "_law_found"] ["_law_script"] (defScope s_law) := ⟨rfl, rfl, rfl, by decide +kernel, rfl, by decide +kernel, by decide +kernel⟩
theorem ok_law {P : Program} {w : World} {K : PySem.W.Frag} {mg : Str → Option Value} {base : Heap} {f : Addr} {fd : FuncData} (Fn : Fun K "law" "law" s_law f fd) (T : Txt K mg) (h_l_number : HasFn P w K mg base 2 "_law_number" 1 g_l_number) (h_l_read : HasFn P w K mg base 2 "_law_read" 1 g_l_read) (h_l_text : HasFn P w K mg base 2 "_law_text" 1 g_l_text) (h_shown_number : HasFn P w K mg base 2 "shown_number" 1 g_shown_number) :
    FnOk P w K mg base CX0 3 f fd ["_law_script"] (spF K 1 g_law) :=
  fn_den (k := 2) (m := 3) (F := F_law) rfl rfl Fn sc_law fun cdv A outer s H E hr => (dss_cons (ds_asg 1 sc_law.nd (d_callH h_l_number (hr.mono (by decide)) rfl (da_cons (dv 0) da_nil) (lenAS lenA0))) (dss_cons (ds_asg 2 sc_law.nd (d_callH h_shown_number (hr.mono (by decide)) rfl (da_cons (dv 1) da_nil) (lenAS lenA0))) (dss_one (ds_ret (d_and (d_isTy ty_str (DE.dr (dv 2)) rfl T.isinstance_b rfl T.str_b) (d_and (d_eq hr (DE.dr (dv 2)) (DE.dr (d_callH h_l_text (hr.mono (by decide)) rfl (da_cons (dv 1) da_nil) (lenAS lenA0)))) (d_one (d_eq hr (DE.dr (d_callH h_l_read (hr.mono (by decide)) rfl (da_cons (dv 2) da_nil) (lenAS lenA0))) (DE.dr (dv 1))))))))))

theorem all_mk {l : PySem.W.OpenLaw} {w : World} {K : PySem.W.Frag} {h : Heap} {mg : Str → Option Value} {fa : Addr} (X : K.In h) (G : h.Ns mainGlobals mg) (hfa : mg "law" = some (.ref fa))
    {f0 : Addr} {oc0 : Value} {od0 an0 : Option Addr} {osl0 : Array (Option Value)} {kV0 doc0 pm0 cdv0 ct0 : Value}
    {f1 : Addr} {oc1 : Value} {od1 an1 : Option Addr} {osl1 : Array (Option Value)} {kV1 doc1 pm1 cdv1 ct1 : Value}
    {f2 : Addr} {oc2 : Value} {od2 an2 : Option Addr} {osl2 : Array (Option Value)} {kV2 doc2 pm2 cdv2 ct2 : Value}
    {f3 : Addr} {oc3 : Value} {od3 an3 : Option Addr} {osl3 : Array (Option Value)} {kV3 doc3 pm3 cdv3 ct3 : Value}
    {f4 : Addr} {oc4 : Value} {od4 an4 : Option Addr} {osl4 : Array (Option Value)} {kV4 doc4 pm4 cdv4 ct4 : Value}
    {f5 : Addr} {oc5 : Value} {od5 an5 : Option Addr} {osl5 : Array (Option Value)} {kV5 doc5 pm5 cdv5 ct5 : Value}
    {f6 : Addr} {oc6 : Value} {od6 an6 : Option Addr} {osl6 : Array (Option Value)} {kV6 doc6 pm6 cdv6 ct6 : Value}
    {f7 : Addr} {oc7 : Value} {od7 an7 : Option Addr} {osl7 : Array (Option Value)} {kV7 doc7 pm7 cdv7 ct7 : Value}
    {f8 : Addr} {oc8 : Value} {od8 an8 : Option Addr} {osl8 : Array (Option Value)} {kV8 doc8 pm8 cdv8 ct8 : Value}
    {f9 : Addr} {oc9 : Value} {od9 an9 : Option Addr} {osl9 : Array (Option Value)} {kV9 doc9 pm9 cdv9 ct9 : Value}
    (a0 : PySem.W.nsIn K mainGlobals "shown_golden_part" = some (some (.ref f0))) (l0 : K.lookup f0 = some ⟨oc0, od0, .func (PySem.W.fnOf "shown_golden_part" "shown_golden_part" (defArgs s_shown_golden_part) (defBody s_shown_golden_part) (defScope s_shown_golden_part) .none kV0 doc0 pm0 an0 cdv0 ct0), osl0⟩) (c0 : PySem.W.codeIn K cdv0 "shown_golden_part" = true) (k0 : PySem.W.keepIn K (.ref f0) = true)
    (a1 : PySem.W.nsIn K mainGlobals "shown_number" = some (some (.ref f1))) (l1 : K.lookup f1 = some ⟨oc1, od1, .func (PySem.W.fnOf "shown_number" "shown_number" (defArgs s_shown_number) (defBody s_shown_number) (defScope s_shown_number) .none kV1 doc1 pm1 an1 cdv1 ct1), osl1⟩) (c1 : PySem.W.codeIn K cdv1 "shown_number" = true) (k1 : PySem.W.keepIn K (.ref f1) = true)
    (a2 : PySem.W.nsIn K mainGlobals "_law_at" = some (some (.ref f2))) (l2 : K.lookup f2 = some ⟨oc2, od2, .func (PySem.W.fnOf "_law_at" "_law_at" (defArgs s_l_at) (defBody s_l_at) (defScope s_l_at) .none kV2 doc2 pm2 an2 cdv2 ct2), osl2⟩) (c2 : PySem.W.codeIn K cdv2 "_law_at" = true) (k2 : PySem.W.keepIn K (.ref f2) = true)
    (a3 : PySem.W.nsIn K mainGlobals "_law_mix" = some (some (.ref f3))) (l3 : K.lookup f3 = some ⟨oc3, od3, .func (PySem.W.fnOf "_law_mix" "_law_mix" (defArgs s_l_mix) (defBody s_l_mix) (defScope s_l_mix) .none kV3 doc3 pm3 an3 cdv3 ct3), osl3⟩) (c3 : PySem.W.codeIn K cdv3 "_law_mix" = true) (k3 : PySem.W.keepIn K (.ref f3) = true)
    (a4 : PySem.W.nsIn K mainGlobals "_law_number" = some (some (.ref f4))) (l4 : K.lookup f4 = some ⟨oc4, od4, .func (PySem.W.fnOf "_law_number" "_law_number" (defArgs s_l_number) (defBody s_l_number) (defScope s_l_number) .none kV4 doc4 pm4 an4 cdv4 ct4), osl4⟩) (c4 : PySem.W.codeIn K cdv4 "_law_number" = true) (k4 : PySem.W.keepIn K (.ref f4) = true)
    (a5 : PySem.W.nsIn K mainGlobals "_law_times_g" = some (some (.ref f5))) (l5 : K.lookup f5 = some ⟨oc5, od5, .func (PySem.W.fnOf "_law_times_g" "_law_times_g" (defArgs s_l_times_g) (defBody s_l_times_g) (defScope s_l_times_g) .none kV5 doc5 pm5 an5 cdv5 ct5), osl5⟩) (c5 : PySem.W.codeIn K cdv5 "_law_times_g" = true) (k5 : PySem.W.keepIn K (.ref f5) = true)
    (a6 : PySem.W.nsIn K mainGlobals "_law_text" = some (some (.ref f6))) (l6 : K.lookup f6 = some ⟨oc6, od6, .func (PySem.W.fnOf "_law_text" "_law_text" (defArgs s_l_text) (defBody s_l_text) (defScope s_l_text) .none kV6 doc6 pm6 an6 cdv6 ct6), osl6⟩) (c6 : PySem.W.codeIn K cdv6 "_law_text" = true) (k6 : PySem.W.keepIn K (.ref f6) = true)
    (a7 : PySem.W.nsIn K mainGlobals "_law_value" = some (some (.ref f7))) (l7 : K.lookup f7 = some ⟨oc7, od7, .func (PySem.W.fnOf "_law_value" "_law_value" (defArgs s_l_value) (defBody s_l_value) (defScope s_l_value) .none kV7 doc7 pm7 an7 cdv7 ct7), osl7⟩) (c7 : PySem.W.codeIn K cdv7 "_law_value" = true) (k7 : PySem.W.keepIn K (.ref f7) = true)
    (a8 : PySem.W.nsIn K mainGlobals "_law_read" = some (some (.ref f8))) (l8 : K.lookup f8 = some ⟨oc8, od8, .func (PySem.W.fnOf "_law_read" "_law_read" (defArgs s_l_read) (defBody s_l_read) (defScope s_l_read) .none kV8 doc8 pm8 an8 cdv8 ct8), osl8⟩) (c8 : PySem.W.codeIn K cdv8 "_law_read" = true) (k8 : PySem.W.keepIn K (.ref f8) = true)
    (a9 : PySem.W.nsIn K mainGlobals "law" = some (some (.ref f9))) (l9 : K.lookup f9 = some ⟨oc9, od9, .func (PySem.W.fnOf "law" "law" (defArgs s_law) (defBody s_law) (defScope s_law) .none kV9 doc9 pm9 an9 cdv9 ct9), osl9⟩) (c9 : PySem.W.codeIn K cdv9 "law" = true) (k9 : PySem.W.keepIn K (.ref f9) = true)
    (b_int : PySem.W.nsIn K mainGlobals "int" = some none)
    (b_isinstance : PySem.W.nsIn K mainGlobals "isinstance" = some none)
    (b_len : PySem.W.nsIn K mainGlobals "len" = some none)
    (b_max : PySem.W.nsIn K mainGlobals "max" = some none)
    (b_str : PySem.W.nsIn K mainGlobals "str" = some none)
    : ∃ fd : FuncData, (∀ (s : Shared) (v : Value), BindsTo s fd ⟨[v], []⟩ [("_law_script", v)]) ∧ ∀ base : Heap, K.In base → base.Ns mainGlobals mg → FnOk l.prog w K mg base CX0 3 fa fd ["_law_script"] (spF K 1 g_law) := by
  have e := hfa.symm.trans (PySem.W.mg_of X G a9)
  cases e
  have T : Txt K mg := ⟨trivial, PySem.W.mg_none_of X G b_int, PySem.W.mg_none_of X G b_isinstance, PySem.W.mg_none_of X G b_len, PySem.W.mg_none_of X G b_max, PySem.W.mg_none_of X G b_str⟩
  have F0 := fun_mk (st := s_shown_golden_part) l0 c0 k0
  have B0 := F0.binds (ps := ["number"]) fun _ _ _ _ _ _ => all1 (fun _ => rfl)
  have F1 := fun_mk (st := s_shown_number) l1 c1 k1
  have B1 := F1.binds (ps := ["x"]) fun _ _ _ _ _ _ => all1 (fun _ => rfl)
  have F2 := fun_mk (st := s_l_at) l2 c2 k2
  have B2 := F2.binds (ps := ["_law_script", "_law_k"]) fun _ _ _ _ _ _ => all2 (fun _ _ => rfl)
  have F3 := fun_mk (st := s_l_mix) l3 c3 k3
  have B3 := F3.binds (ps := ["_law_number_here", "_law_place"]) fun _ _ _ _ _ _ => all2 (fun _ _ => rfl)
  have F4 := fun_mk (st := s_l_number) l4 c4 k4
  have B4 := F4.binds (ps := ["_law_script"]) fun _ _ _ _ _ _ => all1 (fun _ => rfl)
  have F5 := fun_mk (st := s_l_times_g) l5 c5 k5
  have B5 := F5.binds (ps := ["_law_many"]) fun _ _ _ _ _ _ => all1 (fun _ => rfl)
  have F6 := fun_mk (st := s_l_text) l6 c6 k6
  have B6 := F6.binds (ps := ["_law_x"]) fun _ _ _ _ _ _ => all1 (fun _ => rfl)
  have F7 := fun_mk (st := s_l_value) l7 c7 k7
  have B7 := F7.binds (ps := ["_law_written"]) fun _ _ _ _ _ _ => all1 (fun _ => rfl)
  have F8 := fun_mk (st := s_l_read) l8 c8 k8
  have B8 := F8.binds (ps := ["_law_written"]) fun _ _ _ _ _ _ => all1 (fun _ => rfl)
  have F9 := fun_mk (st := s_law) l9 c9 k9
  have B9 := F9.binds (ps := ["_law_script"]) fun _ _ _ _ _ _ => all1 (fun _ => rfl)
  refine ⟨PySem.W.fnOf "law" "law" (defArgs s_law) (defBody s_law) (defScope s_law) .none kV9 doc9 pm9 an9 cdv9 ct9, fun s v => .of_eq rfl, fun base _ _ => ?_⟩
  have H0 : HasFn l.prog w K mg base 1 "shown_golden_part" 1 g_shown_golden_part := ⟨⟨_, _, _, ok_shown_golden_part F0 T , PySem.W.mg_of X G a0, k0, B0⟩⟩
  have H1 : HasFn l.prog w K mg base 2 "shown_number" 1 g_shown_number := ⟨⟨_, _, _, ok_shown_number F1 T H0, PySem.W.mg_of X G a1, k1, B1⟩⟩
  have H2 : HasFn l.prog w K mg base 1 "_law_at" 2 g_l_at := ⟨⟨_, _, _, ok_l_at F2 T , PySem.W.mg_of X G a2, k2, B2⟩⟩
  have H3 : HasFn l.prog w K mg base 1 "_law_mix" 2 g_l_mix := ⟨⟨_, _, _, ok_l_mix F3 T , PySem.W.mg_of X G a3, k3, B3⟩⟩
  have H4 : HasFn l.prog w K mg base 2 "_law_number" 1 g_l_number := ⟨⟨_, _, _, ok_l_number F4 T H2 H3, PySem.W.mg_of X G a4, k4, B4⟩⟩
  have H5 : HasFn l.prog w K mg base 1 "_law_times_g" 1 g_l_times_g := ⟨⟨_, _, _, ok_l_times_g F5 T , PySem.W.mg_of X G a5, k5, B5⟩⟩
  have H6 : HasFn l.prog w K mg base 2 "_law_text" 1 g_l_text := ⟨⟨_, _, _, ok_l_text F6 T H5, PySem.W.mg_of X G a6, k6, B6⟩⟩
  have H7 : HasFn l.prog w K mg base 1 "_law_value" 1 g_l_value := ⟨⟨_, _, _, ok_l_value F7 T , PySem.W.mg_of X G a7, k7, B7⟩⟩
  have H8 : HasFn l.prog w K mg base 2 "_law_read" 1 g_l_read := ⟨⟨_, _, _, ok_l_read F8 T H7, PySem.W.mg_of X G a8, k8, B8⟩⟩
  exact ok_law F9 T H4 H8 H6 H1

open TX
theorem eqs (x y : Str) : eqF (.str x) (.str y) = some (.bl (decide (cp x = cp y))) := by
  show (if dep (.str x) ≤ 100 then some (D.bl (eqD (.str x) (.str y))) else none) = _
  rw [if_pos (by simp [dep])]
  show some (D.bl (x == y)) = _
  rw [cp_beq]
theorem nes (x y : Str) : neF (.str x) (.str y) = some (.bl (!decide (cp x = cp y))) := by
  show (if dep (.str x) ≤ 100 then some (D.bl (!eqD (.str x) (.str y))) else none) = _
  rw [if_pos (by simp [dep])]
  show some (D.bl (!(x == y))) = _
  rw [cp_beq]
theorem lit0 : cp "" = [] := by rw [show cp "" = _ from PyProof.Rows.signs_ofString ""]; rfl
theorem litP : cp "+" = [43] := by rw [show cp "+" = _ from PyProof.Rows.signs_ofString "+"]; rfl
theorem litM : cp "-" = [45] := by rw [show cp "-" = _ from PyProof.Rows.signs_ofString "-"]; rfl
theorem litG : cp "g" = [103] := by rw [show cp "g" = _ from PyProof.Rows.signs_ofString "g"]; rfl
theorem litMG : cp "-g" = [45, 103] := by rw [show cp "-g" = _ from PyProof.Rows.signs_ofString "-g"]; rfl
theorem litZ : cp "0" = [48] := by rw [show cp "0" = _ from PyProof.Rows.signs_ofString "0"]; rfl
theorem litPM : cp "+-" = [43, 45] := by rw [show cp "+-" = _ from PyProof.Rows.signs_ofString "+-"]; rfl
theorem litF : cp "0123456789" = [48, 49, 50, 51, 52, 53, 54, 55, 56, 57] := by rw [show cp "0123456789" = _ from PyProof.Rows.signs_ofString "0123456789"]; rfl
theorem lit_P : ("+" : Str) = ⟨#[43]⟩ := cp_ext litP
theorem lit_M : ("-" : Str) = ⟨#[45]⟩ := cp_ext litM
theorem cp_one (c : Nat) : cp ⟨#[c]⟩ = [c] := rfl
theorem sz1 {n : Nat} (h : n ≤ 900) : n ≤ sizeLine := Nat.le_of_lt (small1000 (by omega))
theorem ixs0 {z : Str} {c : Nat} {r : List Nat} (h : cp z = c :: r) (hl : z.length ≤ sizeLine) : ixD (.str z) (.int 0) = some (.str ⟨#[c]⟩) := by
  show (if z.length ≤ sizeLine then (atI (cp z) 0).map fun c => D.str ⟨#[c]⟩ else none) = _
  rw [if_pos hl, h]
  simp [atI, ixN]
theorem ins_n (c : Nat) (z : Str) : inD true (.str ⟨#[c]⟩) (.str z) = some (.bl (!decide (c ∈ cp z))) := by
  show some (D.bl (xor true (inS ⟨#[c]⟩ z))) = _
  rw [in_one]; simp
theorem ins_p (c : Nat) (z : Str) : inD false (.str ⟨#[c]⟩) (.str z) = some (.bl (decide (c ∈ cp z))) := by
  show some (D.bl (xor false (inS ⟨#[c]⟩ z))) = _
  rw [in_one]; simp
theorem seq_nx {F G : FS} {ρ ρ' : Rho} (h : F ρ = some (.nx ρ')) : seqF F G ρ = G ρ' := by rw [s_seqF, h]; rfl
theorem seq_rt {F G : FS} {ρ : Rho} {d : D} (h : F ρ = some (.rt d)) : seqF F G ρ = some (.rt d) := by rw [s_seqF, h]; rfl
theorem fig_loop (w f : D) : ∀ (cs : List Nat) (s : FL.Slot), NumText.AllDigits cs → ∃ s', loopF (nameG 2) (ifS (blF (bind2 (inD true) (vF 2) (cF (.str "0123456789")))) (retF (cF .non)) nxF) (cs.map fun c => D.str ⟨#[c]⟩) [.fr w, .fr f, s] = some (.nx [.fr w, .fr f, s'])
  | [], s, _ => ⟨s, rfl⟩
  | c :: cs, s, h => by
    obtain ⟨s', e⟩ := fig_loop w f cs (.fr (.str ⟨#[c]⟩)) h.tail
    have hc := h.head
    have hm : c ∈ cp "0123456789" := by
      rw [litF]
      simp only [List.mem_cons, List.not_mem_nil, or_false]
      omega
    refine ⟨s', ?_⟩
    rw [List.map_cons]
    unfold loopF
    simp [ins_n, hm]
    simpa using e
theorem value_tail (z fz : Str) (m : Nat) (c0 : Nat) (r0 : List Nat) (hz : cp z = c0 :: r0) (hzl : z.length ≤ sizeLine) (hf : cp fz = dg m) (hl : (dg m).length ≤ 640) :
    (seqF (forF (seqX (vF 1)) (nameG 2) (ifS (blF (bind2 (inD true) (vF 2) (cF (.str "0123456789")))) (retF (cF .non)) nxF)) (seqF (ifS (orT (blF (bind2 eqF (vF 1) (cF (.str "")))) (andT (blF (bind2 eqF (bind2 ixD (vF 1) (cF (.int 0))) (cF (.str "0")))) (blF (bind2 neF (vF 1) (cF (.str "0")))))) (retF (cF .non)) nxF) (retF (bind2 mulD (appF intX (consA (vF 1) nilA)) (bind2 ixD (mapLst (lstF (consA (cF (.int 1)) (consA (bind2 subD (cF (.int 0)) (cF (.int 1))) nilA)))) (appF intX (consA (bind2 eqF (bind2 ixD (vF 0) (cF (.int 0))) (cF (.str "-"))) nilA)))))))
      [.fr (.str z), .fr (.str fz), .no] = some (.rt (.int ((m : Int) * (if c0 = 45 then -1 else 1)))) := by
  obtain ⟨s', e⟩ := fig_loop (.str z) (.str fz) (dg m) .no (dg_all m)
  have h1 : forF (seqX (vF 1)) (nameG 2) (ifS (blF (bind2 (inD true) (vF 2) (cF (.str "0123456789")))) (retF (cF .non)) nxF) [.fr (.str z), .fr (.str fz), .no] = some (.nx [.fr (.str z), .fr (.str fz), s']) := by
    rw [s_forF, s_seqX]
    show loopF _ _ ((cp fz).map fun c => D.str ⟨#[c]⟩) _ = _
    rw [hf]; exact e
  rw [seq_nx h1]
  obtain ⟨c, r, hcr⟩ : ∃ c r, dg m = c :: r := by
    cases h : dg m with
    | nil => exact absurd h (dg_ne m)
    | cons c r => exact ⟨c, r, rfl⟩
  have hfl : fz.length ≤ sizeLine := by rw [cp_len, hf]; exact sz1 (by omega)
  have hi := ixs0 (z := fz) (by rw [hf]; exact hcr) hfl
  have hi0 := ixs0 hz hzl
  have hne : ¬ (cp fz = cp "") := by rw [hf, hcr, lit0]; simp
  have h0 : c = 48 → cp fz = cp "0" := by
    intro hc
    rw [hf, litZ]
    by_cases hm : m = 0
    · rw [hm, dg_lt (by decide)]
    · obtain ⟨c', r', e1, e2, e3⟩ := dg_head hm
      rw [hcr] at e1
      cases e1
      omega
  have hmul : ∀ k : Int, -2 ≤ k → k ≤ 2 → mulD (.int (m : Int)) (.int k) = some (.int ((m : Int) * k)) := fun k h1 h2 => mulD_ok (mulOk_r (by omega) (by omega))
  have hint := int_dg fz m hf hl
  have hsz : (2 : Nat) ≤ sizeLine := sz1 (by omega)
  have h2 : ifS (orT (blF (bind2 eqF (vF 1) (cF (.str "")))) (andT (blF (bind2 eqF (bind2 ixD (vF 1) (cF (.int 0))) (cF (.str "0")))) (blF (bind2 neF (vF 1) (cF (.str "0")))))) (retF (cF .non)) nxF [.fr (.str z), .fr (.str fz), s'] = some (.nx [.fr (.str z), .fr (.str fz), s']) := by
    by_cases hc : c = 48
    · simp [eqs, nes, hi, h0 hc, hne, litZ, lit0, cp_one]
    · simp [eqs, nes, hi, hne, litZ, hc, cp_one]
  rw [seq_nx h2]
  have i1 : ixD (.lst [.int 1, .int (0 - 1)]) (.int 1) = some (.int (0 - 1)) := by simp [ixD, atI, ixN]
  have i0 : ixD (.lst [.int 1, .int (0 - 1)]) (.int 0) = some (.int 1) := by simp [ixD, atI, ixN]
  have b1 : intX [.bl true] = some (.int 1) := rfl
  have b0 : intX [.bl false] = some (.int 0) := rfl
  by_cases hc : c0 = 45
  · simp only [s_retF, s_bind2, s_appF, s_consA, s_nilA, s_vF, s_cF, s_mapLst, s_lstF, List.getElem?_cons_zero, List.getElem?_cons_succ, Option.bind_some, hint, hi0, eqs, litM, cp_one, hc, decide_true, s_sub, List.length_cons, List.length_nil, Nat.reduceAdd, hsz, if_true, Option.map_some, b1, i1, hmul (0 - 1) (by decide) (by decide)]
    rfl
  · have hc' : ¬ ([c0] = [45]) := by simpa using hc
    simp only [s_retF, s_bind2, s_appF, s_consA, s_nilA, s_vF, s_cF, s_mapLst, s_lstF, List.getElem?_cons_zero, List.getElem?_cons_succ, Option.bind_some, hint, hi0, eqs, litM, cp_one, hc', hc, decide_false, s_sub, List.length_cons, List.length_nil, Nat.reduceAdd, hsz, if_true, if_false, Option.map_some, b0, i0, hmul 1 (by decide) (by decide)]
/-- the value of figures, maybe behind a sign -/
theorem value_one (z : Str) (h : cp z = [] ∨ cp z = [43]) : g_l_value [.str z] = some (.int 1) := by
  rcases h with h | h <;> simp [g_l_value, F_l_value, eqs, h, lit0, litP]
theorem value_m1 (z : Str) (h : cp z = [45]) : g_l_value [.str z] = some (.int (-1)) := by
  simp [g_l_value, F_l_value, eqs, h, lit0, litP, litM]
theorem value_run {z : Str} {v : Int} (h : F_l_value [.fr (.str z), .no, .no] = some (.rt (.int v))) : g_l_value [.str z] = some (.int v) := by
  show outD (F_l_value _) = _
  show outD (F_l_value [.fr (.str z), .no, .no]) = _
  rw [h]; rfl
theorem value_dg (z : Str) (m : Nat) (h : cp z = dg m) (hl : (dg m).length ≤ 640) : g_l_value [.str z] = some (.int m) := by
  obtain ⟨c, r, hcr⟩ : ∃ c r, dg m = c :: r := by
    cases h : dg m with
    | nil => exact absurd h (dg_ne m)
    | cons c r => exact ⟨c, r, rfl⟩
  have hd : 48 ≤ c ∧ c ≤ 57 := dg_all m c (by rw [hcr]; simp)
  have hz : cp z = c :: r := by rw [h, hcr]
  have hzl : z.length ≤ sizeLine := by rw [cp_len, h]; exact sz1 (by omega)
  have hi := ixs0 hz hzl
  have n1 : c ≠ 43 := by omega
  have n2 : c ≠ 45 := by omega
  apply value_run
  unfold F_l_value
  rw [seq_nx (ρ' := [.fr (.str z), .no, .no]) (by simp [eqs, hz, lit0, litP, n1]), seq_nx (ρ' := [.fr (.str z), .no, .no]) (by simp [eqs, hz, litM, n2]), seq_nx (ρ' := [.fr (.str z), .fr (.str z), .no]) (by simp), seq_nx (ρ' := [.fr (.str z), .fr (.str z), .no]) (by simp [hi, ins_p, litPM, n1, n2]),
    value_tail z z m c r hz hzl h hl, if_neg n2]
  simp
theorem value_sg (z : Str) (m s : Nat) (hs : s = 43 ∨ s = 45) (h : cp z = s :: dg m) (hl : (dg m).length ≤ 640) : g_l_value [.str z] = some (.int ((m : Int) * (if s = 45 then -1 else 1))) := by
  have hzl : z.length ≤ sizeLine := by rw [cp_len, h, List.length_cons]; exact sz1 (by omega)
  have hi := ixs0 h hzl
  have hne := dg_ne m
  have hcut : cp (cutS z (some 1) none) = dg m := by
    rw [cp_cut, show (some (1 : Int)) = some ((1 : Nat) : Int) from rfl, cut_from _ 1 (by rw [h]; simp), h]
    rfl
  apply value_run
  unfold F_l_value
  have a1 : ¬ (s :: dg m = [43]) := fun e => hne (List.cons.inj e).2
  have a2 : ¬ (s :: dg m = [45]) := fun e => hne (List.cons.inj e).2
  have a3 : s ∈ [43, 45] := by rcases hs with e | e <;> simp [e]
  rw [seq_nx (ρ' := [.fr (.str z), .no, .no]) (by simp only [s_ifS, s_orT, s_blF, s_bind2, s_vF, s_cF, List.getElem?_cons_zero, Option.bind_some, eqs, h, lit0, litP, a1, decide_false, reduceCtorEq, Bool.false_eq_true, if_false, s_nxF]), seq_nx (ρ' := [.fr (.str z), .no, .no]) (by simp only [s_ifS, s_blF, s_bind2, s_vF, s_cF, List.getElem?_cons_zero, Option.bind_some, eqs, h, litM, a2, decide_false, Bool.false_eq_true, if_false, s_nxF]), seq_nx (ρ' := [.fr (.str z), .fr (.str z), .no]) (by simp),
    seq_nx (ρ' := [.fr (.str z), .fr (.str (cutS z (some 1) none)), .no]) (by simp only [s_ifS, s_blF, s_bind2, s_vF, s_cF, List.getElem?_cons_zero, Option.bind_some, hi, ins_p, litPM, a3, decide_true, if_true, s_asgF, s_sliceX, s_exP, s_noP, hzl, List.set_cons_succ, List.set_cons_zero]),
    value_tail z _ m s (dg m) h hzl hcut hl]
/-- golden parts -/
def gp (n : Int) : Str := if n = 1 then "g" else if n = -1 then "-g" else si n ++ "g"
def Sm (n : Int) : Prop := n.natAbs < 10 ^ 201
theorem Sm.log {n : Int} (h : Sm n) : n.natAbs.log2 < 1920 := by
  by_cases h0 : n.natAbs = 0
  · rw [h0]; decide
  · rw [Nat.log2_lt h0]
    exact Nat.lt_of_lt_of_le h (by decide +kernel)
theorem Sm.len {n : Int} (h : Sm n) : (dg n.natAbs).length ≤ 201 := dg_len h
theorem Sm.si {n : Int} (h : Sm n) : (cp (si n)).length ≤ 202 := by
  have := h.len
  rcases Int.lt_or_le n 0 with h1 | h1
  · rw [si_neg h1, List.length_cons]; omega
  · rw [si_nn h1]; omega
theorem str_val {n : Int} (h : Sm n) : strD [.int n] = some (.str (si n)) := by
  show (if n.natAbs.log2 < 1920 then some (D.str (si n)) else none) = _
  rw [if_pos h.log]
theorem add_str {x y : Str} (h : (cp x).length + (cp y).length ≤ 900) : addX (.str x) (.str y) = some (.str (x ++ y)) := by
  show (if x.length + y.length ≤ sizeLine then some (D.str (x ++ y)) else none) = _
  rw [if_pos (by rw [cp_len, cp_len]; exact sz1 h)]
theorem jn_val (n : Int) : jn Str.empty [si n, "g"] = si n ++ "g" := by
  show (Str.empty ++ si n) ++ "g" = _
  congr 1
  apply cp_ext
  rw [cp_app, cp_empty, List.nil_append]
theorem part_val {n : Int} (h : Sm n) : g_shown_golden_part [.int n] = some (.str (gp n)) := by
  unfold gp
  by_cases h1 : n = 1
  · subst h1; rfl
  · by_cases h2 : n = -1
    · subst h2; rfl
    · have hz : (jn Str.empty [si n, "g"]).length ≤ sizeLine := by
        rw [jn_val, cp_len, cp_app, litG, List.length_append]
        have := h.si
        exact sz1 (by rw [List.length_cons, List.length_nil]; omega)
      have hf : fmtD (.int n) = some (si n) := by
        show (if n.natAbs.log2 < 1920 then some (si n) else none) = _
        rw [if_pos h.log]
      simp [g_shown_golden_part, F_shown_golden_part, h1, h2, hf, hz]
      exact jn_val n
theorem timesg_val {n : Int} (h : Sm n) : g_l_times_g [.int n] = some (.str (gp n)) := by
  unfold gp
  by_cases h1 : n = 1
  · subst h1; rfl
  · by_cases h2 : n = -1
    · subst h2; rfl
    · have ha : addX (.str (si n)) (.str "g") = some (.str (si n ++ "g")) := add_str (by rw [litG]; have := h.si; rw [List.length_cons, List.length_nil]; omega)
      simp [g_l_times_g, F_l_times_g, h1, h2, str_val h, ha]

/-- the whole text -/
def sh (a b : Int) : Str := if b = 0 then si a else if a = 0 then gp b else if 0 < b then si a ++ "+" ++ gp b else si a ++ gp b
theorem gp_len {n : Int} (h : Sm n) : (cp (gp n)).length ≤ 203 := by
  unfold gp
  split
  · rw [litG]; decide
  · split
    · rw [litMG]; decide
    · rw [cp_app, litG, List.length_append, List.length_cons, List.length_nil]
      have := h.si
      omega
def pD (a b : Int) : D := .tup [.int a, .int b]
theorem ip0 (a b : Int) : ixD (pD a b) (.int 0) = some (.int a) := by simp [pD, ixD, atI, ixN]
theorem ip1 (a b : Int) : ixD (pD a b) (.int 1) = some (.int b) := by
  have h := atI_nat (xs := [D.int a, D.int b]) (j := 1) (v := .int b) rfl
  exact h
theorem app_nil (x : Str) : x ++ ("" : Str) = x := by
  apply cp_ext
  rw [cp_app, lit0, List.append_nil]
theorem shown_val {a b : Int} (ha : Sm a) (hb : Sm b) : g_shown_number [pD a b] = some (.str (sh a b)) := by
  have l1 := ha.si
  have l2 := gp_len hb
  unfold sh
  by_cases h1 : b = 0
  · subst h1
    simp [g_shown_number, F_shown_number, ip0, ip1, str_val ha]
  · by_cases h2 : a = 0
    · subst h2
      simp [g_shown_number, F_shown_number, ip0, ip1, h1, part_val hb, List.replicate]
    · by_cases h3 : 0 < b
      · have a1 : addX (.str (si a)) (.str "+") = some (.str (si a ++ "+")) := add_str (by rw [litP, List.length_cons, List.length_nil]; omega)
        have a2 : addX (.str (si a ++ "+")) (.str (gp b)) = some (.str (si a ++ "+" ++ gp b)) := add_str (by rw [cp_app, litP, List.length_append, List.length_cons, List.length_nil]; omega)
        simp [g_shown_number, F_shown_number, ip0, ip1, h1, h2, h3, part_val hb, str_val ha, a1, a2, List.replicate]
      · have a1 : addX (.str (si a)) (.str "") = some (.str (si a)) := by rw [add_str (by rw [lit0, List.length_nil]; omega), app_nil]
        have a2 : addX (.str (si a)) (.str (gp b)) = some (.str (si a ++ gp b)) := add_str (by omega)
        simp [g_shown_number, F_shown_number, ip0, ip1, h1, h2, h3, part_val hb, str_val ha, a1, a2, List.replicate]
theorem text_val {a b : Int} (ha : Sm a) (hb : Sm b) : g_l_text [pD a b] = some (.str (sh a b)) := by
  have l1 := ha.si
  have l2 := gp_len hb
  unfold sh
  by_cases h1 : b = 0
  · subst h1
    simp [g_l_text, F_l_text, ip0, ip1, str_val ha]
  · by_cases h2 : a = 0
    · subst h2
      simp [g_l_text, F_l_text, ip0, ip1, h1, timesg_val hb, List.replicate]
    · by_cases h3 : 0 < b
      · have a1 : addX (.str (si a)) (.str "+") = some (.str (si a ++ "+")) := add_str (by rw [litP, List.length_cons, List.length_nil]; omega)
        have a2 : addX (.str (si a ++ "+")) (.str (gp b)) = some (.str (si a ++ "+" ++ gp b)) := add_str (by rw [cp_app, litP, List.length_append, List.length_cons, List.length_nil]; omega)
        simp [g_l_text, F_l_text, ip0, ip1, h1, h2, h3, timesg_val hb, str_val ha, a1, a2, List.replicate]
      · have a2 : addX (.str (si a)) (.str (gp b)) = some (.str (si a ++ gp b)) := add_str (by omega)
        simp [g_l_text, F_l_text, ip0, ip1, h1, h2, h3, timesg_val hb, str_val ha, a2, List.replicate]
theorem value_si {z : Str} {n : Int} (h : cp z = cp (si n)) (hn : Sm n) : g_l_value [.str z] = some (.int n) := by
  have hl := hn.len
  rcases Int.lt_or_le n 0 with h1 | h1
  · rw [si_neg h1] at h
    rw [value_sg z n.natAbs 45 (.inr rfl) h (by omega), if_pos rfl]
    congr 2; omega
  · rw [si_nn h1] at h
    rw [value_dg z n.natAbs h (by omega)]
    congr 2; omega
/-- a golden part's figures: gp n less its g -/
def gw (n : Int) : List Nat := if n = 1 then [] else if n = -1 then [45] else cp (si n)
theorem gp_gw (n : Int) : cp (gp n) = gw n ++ [103] := by
  unfold gp gw
  split
  · rw [litG]; rfl
  · split
    · rw [litMG]; rfl
    · rw [cp_app, litG]
theorem si_signs (n : Int) : ∀ c ∈ cp (si n), c = 45 ∨ (48 ≤ c ∧ c ≤ 57) := by
  intro c hc
  rcases Int.lt_or_le n 0 with h1 | h1
  · rw [si_neg h1] at hc
    rcases List.mem_cons.mp hc with e | e
    · exact .inl e
    · exact .inr (dg_all _ c e)
  · rw [si_nn h1] at hc
    exact .inr (dg_all _ c hc)
theorem gw_signs (n : Int) : ∀ c ∈ gw n, c = 45 ∨ (48 ≤ c ∧ c ≤ 57) := by
  unfold gw
  split
  · intro c hc; cases hc
  · split
    · intro c hc; simp at hc; exact .inl hc
    · exact si_signs n
theorem gw_nn {n : Int} (h : 0 < n) : 45 ∉ gw n := by
  unfold gw
  split
  · simp
  · rw [if_neg (by omega), si_nn (by omega)]
    intro hc
    have := dg_all _ 45 hc
    omega
theorem gw_neg {n : Int} (h : n < 0) : ∃ r, gw n = 45 :: r ∧ 45 ∉ r := by
  unfold gw
  rw [if_neg (by omega)]
  split
  · exact ⟨[], rfl, by simp⟩
  · exact ⟨_, si_neg h, fun hc => by have := dg_all _ 45 hc; omega⟩
theorem value_gw {z : Str} {n : Int} (h : cp z = gw n) (hn : Sm n) : g_l_value [.str z] = some (.int n) := by
  unfold gw at h
  split at h
  · rename_i e; subst e; exact value_one z (.inl h)
  · split at h
    · rename_i e; subst e; exact value_m1 z h
    · exact value_si h hn
theorem value_pgw {z : Str} {n : Int} (h0 : 0 < n) (h : cp z = 43 :: gw n) (hn : Sm n) : g_l_value [.str z] = some (.int n) := by
  have hl := hn.len
  unfold gw at h
  split at h
  · rename_i e; subst e; exact value_one z (.inr h)
  · rw [if_neg (by omega), si_nn (by omega)] at h
    rw [value_sg z n.natAbs 43 (.inl rfl) h (by omega), if_neg (by decide)]
    congr 2; omega
def mx (z : Str) : Int := if Txt.rfind z "-" > Txt.rfind z "+" then Txt.rfind z "-" else Txt.rfind z "+"
theorem last_g {z : Str} {A : List Nat} (hz : cp z = A ++ [103]) : cp (cutS z (some (-1)) none) = [103] := by
  rw [cp_cut, cut_last, hz]
  simp
theorem most_g {z : Str} {A : List Nat} (hz : cp z = A ++ [103]) : cp (cutS z none (some (-1))) = A := by
  rw [cp_cut, cut_butlast, hz]
  simp
theorem read_run {z : Str} {d : D} (h : F_l_read [.fr (.str z), .no] = some (.rt d)) : g_l_read [.str z] = some d := by
  show outD (F_l_read [.fr (.str z), .no]) = _
  rw [h]; rfl
theorem read_num {z : Str} {a : Int} (hl : (cp z).length ≤ 900) (h : ∀ c ∈ cp z, c ≠ 103) (va : g_l_value [.str z] = some (.int a)) : g_l_read [.str z] = some (pD a 0) := by
  have hzl : z.length ≤ sizeLine := by rw [cp_len]; exact sz1 hl
  have hne : ¬ (cp (cutS z (some (-1)) none) = [103]) := by
    rw [cp_cut, cut_last]
    intro e
    have : (103 : Nat) ∈ (cp z).drop ((cp z).length - 1) := by rw [e]; simp
    exact h 103 (List.mem_of_mem_drop this) rfl
  apply read_run
  unfold F_l_read
  refine seq_rt ?_
  have hs : (2 : Nat) ≤ sizeLine := sz1 (by omega)
  simp [hzl, nes, litG, hne, va, hs, pD]
theorem read_head {z : Str} {A : List Nat} {G : FS} (hz : cp z = A ++ [103]) (hl : (cp z).length ≤ 900) :
    seqF (ifS (blF (bind2 neF (sliceX (vF 0) (exP (bind1 negD (cF (.int 1)))) noP) (cF (.str "g")))) (retF (tupF (consA (appF g_l_value (consA (vF 0) nilA)) (consA (cF (.int 0)) nilA)))) nxF)
      (seqF (asgF 1 (appF maxD (consA (bind2 (ttD Txt.rfind) (vF 0) (cF (.str "+"))) (consA (bind2 (ttD Txt.rfind) (vF 0) (cF (.str "-"))) nilA)))) G) [.fr (.str z), .no] = G [.fr (.str z), .fr (.int (mx z))] := by
  have hzl : z.length ≤ sizeLine := by rw [cp_len]; exact sz1 hl
  rw [seq_nx (ρ' := [.fr (.str z), .no]) (by simp [hzl, nes, litG, last_g hz]), seq_nx (ρ' := [.fr (.str z), .fr (.int (mx z))]) (by simp [mx])]
theorem read_one {z : Str} {b : Int} {B : List Nat} (hz : cp z = B ++ [103]) (hl : (cp z).length ≤ 900) (hm : mx z ≤ 0) (vb : ∀ y, cp y = B → g_l_value [.str y] = some (.int b)) : g_l_read [.str z] = some (pD 0 b) := by
  have hzl : z.length ≤ sizeLine := by rw [cp_len]; exact sz1 hl
  apply read_run
  unfold F_l_read
  rw [read_head hz hl]
  refine seq_rt ?_
  have hs : (2 : Nat) ≤ sizeLine := sz1 (by omega)
  simp [hm, hzl, vb _ (most_g hz), hs, pD]
theorem read_two {z : Str} {a b : Int} {A B : List Nat} (hz : cp z = (A ++ B) ++ [103]) (hA : 0 < A.length) (hl : (cp z).length ≤ 900) (hm : mx z = (A.length : Int)) (va : ∀ y, cp y = A → g_l_value [.str y] = some (.int a)) (vb : ∀ y, cp y = B → g_l_value [.str y] = some (.int b)) : g_l_read [.str z] = some (pD a b) := by
  have hzl : z.length ≤ sizeLine := by rw [cp_len]; exact sz1 hl
  have c1 : cp (cutS z none (some (A.length : Int))) = A := by
    rw [cp_cut, cut_to _ _ (by rw [hz]; simp), hz]
    simp
  have c2 : cp (cutS z (some (A.length : Int)) (some (-1))) = B := by
    rw [cp_cut, cut_mid1 _ _ (by rw [hz]; simp), hz]
    simp
  have hn : ¬ ((A.length : Int) ≤ 0) := by omega
  apply read_run
  unfold F_l_read
  rw [read_head hz hl, hm, seq_nx (ρ' := [.fr (.str z), .fr (.int (A.length : Int))]) (by simp only [s_ifS, s_blF, s_bind2, s_vF, s_cF, List.getElem?_cons_zero, List.getElem?_cons_succ, Option.bind_some, s_le, hn, decide_false, Bool.false_eq_true, if_false, s_nxF])]
  have hs : (2 : Nat) ≤ sizeLine := sz1 (by omega)
  simp [hzl, va _ c1, vb _ c2, hs, pD]
theorem rfM_none (z : Str) (h : 45 ∉ cp z) : Txt.rfind z "-" = -1 := by rw [lit_M]; exact rf_none z 45 h
theorem rfP_none (z : Str) (h : 43 ∉ cp z) : Txt.rfind z "+" = -1 := by rw [lit_P]; exact rf_none z 43 h
theorem rfM_some (z : Str) (a b : List Nat) (h : cp z = a ++ 45 :: b) (hb : 45 ∉ b) : Txt.rfind z "-" = (a.length : Int) := by rw [lit_M]; exact rf_some z 45 a b h hb
theorem rfP_some (z : Str) (a b : List Nat) (h : cp z = a ++ 43 :: b) (hb : 43 ∉ b) : Txt.rfind z "+" = (a.length : Int) := by rw [lit_P]; exact rf_some z 43 a b h hb
theorem no43 {l : List Nat} (h : ∀ c ∈ l, c = 45 ∨ (48 ≤ c ∧ c ≤ 57)) : 43 ∉ l := fun hc => by have := h 43 hc; omega
theorem si_pos (n : Int) : 0 < (cp (si n)).length := by
  rcases Int.lt_or_le n 0 with h1 | h1
  · rw [si_neg h1]; simp
  · rw [si_nn h1]; exact List.length_pos_iff.mpr (dg_ne _)
theorem read_val {a b : Int} (ha : Sm a) (hb : Sm b) : g_l_read [.str (sh a b)] = some (pD a b) := by
  have l1 := ha.si
  have l2 := gp_len hb
  have l3 := si_pos a
  unfold sh
  by_cases h1 : b = 0
  · subst h1
    rw [if_pos rfl]
    exact read_num (by omega) (fun c hc => by have := si_signs a c hc; omega) (value_si rfl ha)
  · rw [if_neg h1]
    by_cases h2 : a = 0
    · subst h2
      rw [if_pos rfl]
      refine read_one (gp_gw b) (by omega) ?_ fun y hy => value_gw hy hb
      have e1 : Txt.rfind (gp b) "+" = -1 := rfP_none _ (by rw [gp_gw]; intro hc; rcases List.mem_append.mp hc with h | h; exact no43 (gw_signs b) h; simp at h)
      unfold mx
      rcases Int.lt_or_le b 0 with h3 | h3
      · obtain ⟨r, e2, e3⟩ := gw_neg h3
        have e4 : Txt.rfind (gp b) "-" = (([] : List Nat).length : Int) := rfM_some _ [] (r ++ [103]) (by rw [gp_gw, e2]; rfl) (by intro hc; rcases List.mem_append.mp hc with h | h; exact e3 h; simp at h)
        rw [e1, e4]
        decide
      · have e4 : Txt.rfind (gp b) "-" = -1 := rfM_none _ (by rw [gp_gw]; intro hc; rcases List.mem_append.mp hc with h | h; exact gw_nn (by omega) h; simp at h)
        rw [e1, e4]
        decide
    · rw [if_neg h2]
      by_cases h3 : 0 < b
      · rw [if_pos h3]
        have hz : cp (si a ++ "+" ++ gp b) = (cp (si a) ++ (43 :: gw b)) ++ [103] := by
          rw [cp_app, cp_app, litP, gp_gw]
          simp
        have hp : Txt.rfind (si a ++ "+" ++ gp b) "+" = ((cp (si a)).length : Int) := rfP_some _ (cp (si a)) (gw b ++ [103]) (by rw [hz]; simp) (by intro hc; rcases List.mem_append.mp hc with h | h; exact no43 (gw_signs b) h; simp at h)
        refine read_two hz l3 (by rw [cp_app, cp_app, litP, List.length_append, List.length_append, List.length_cons, List.length_nil]; omega) ?_ (fun y hy => value_si hy ha) fun y hy => value_pgw h3 hy hb
        have hm : Txt.rfind (si a ++ "+" ++ gp b) "-" ≤ 0 := by
          have n1 : 45 ∉ (43 :: gw b) ++ [103] := by
            intro hc
            rcases List.mem_append.mp hc with h | h
            · rcases List.mem_cons.mp h with h | h
              · omega
              · exact gw_nn h3 h
            · simp at h
          rcases Int.lt_or_le a 0 with h4 | h4
          · have := rfM_some (si a ++ "+" ++ gp b) [] (dg a.natAbs ++ ((43 :: gw b) ++ [103])) (by rw [hz, si_neg h4]; simp) (by
              intro hc
              rcases List.mem_append.mp hc with h | h
              · have := dg_all _ 45 h; omega
              · exact n1 h)
            rw [this]; decide
          · have := rfM_none (si a ++ "+" ++ gp b) (by
              rw [hz, si_nn h4, List.append_assoc]
              intro hc
              rcases List.mem_append.mp hc with h | h
              · have := dg_all _ 45 h; omega
              · exact n1 h)
            rw [this]; decide
        unfold mx
        rw [hp, if_neg (by omega)]
      · rw [if_neg h3]
        obtain ⟨r, e2, e3⟩ := gw_neg (n := b) (by omega)
        have hz : cp (si a ++ gp b) = (cp (si a) ++ gw b) ++ [103] := by
          rw [cp_app, gp_gw]
          simp
        have hp : Txt.rfind (si a ++ gp b) "+" = -1 := rfP_none _ (by
          rw [hz]
          intro hc
          rcases List.mem_append.mp hc with h | h
          · rcases List.mem_append.mp h with h | h
            · exact no43 (si_signs a) h
            · exact no43 (gw_signs b) h
          · simp at h)
        have hm : Txt.rfind (si a ++ gp b) "-" = ((cp (si a)).length : Int) := rfM_some _ (cp (si a)) (r ++ [103]) (by rw [hz, e2]; simp) (by intro hc; rcases List.mem_append.mp hc with h | h; exact e3 h; simp at h)
        refine read_two hz l3 (by rw [cp_app, List.length_append]; omega) ?_ (fun y hy => value_si hy ha) fun y hy => value_gw hy hb
        unfold mx
        rw [hp, hm, if_pos (by omega)]

theorem at_val (ns : List Int) (k : Nat) (hk : k ≤ 2) : ∃ z, g_l_at [.lst (ns.map D.int), .int (k : Int)] = some (.int z) := by
  have m : mulD (.int 17) (.int (k : Int)) = some (.int (17 * k)) := mulD_ok (mulOk_r (by omega) (by omega))
  by_cases h : k < ns.length
  · have e : ixD (.lst (ns.map D.int)) (.int (k : Int)) = some (.int (ns.getD k 0)) := atI_nat (by simp [List.getD_eq_getElem?_getD, h])
    have h' : (k : Int) < (ns.length : Int) := by omega
    exact ⟨_, by simp only [g_l_at, F_l_at, s_denF, s_startR, List.map_cons, List.map_nil, List.length_cons, List.length_nil, Nat.reduceAdd, Nat.reduceSub, List.replicate, List.cons_append, List.nil_append, List.append_nil, s_seqF, s_ifS, s_blF, s_bind2, s_vF, s_appF, s_consA, s_nilA, s_cF, List.getElem?_cons_zero, List.getElem?_cons_succ, Option.bind_some, s_lenL, List.length_map, s_lt, h', decide_true, if_true, s_retF, e, s_outR]; rfl⟩
  · have h' : ¬ ((k : Int) < (ns.length : Int)) := by omega
    exact ⟨_, by simp only [g_l_at, F_l_at, s_denF, s_startR, List.map_cons, List.map_nil, List.length_cons, List.length_nil, Nat.reduceAdd, Nat.reduceSub, List.replicate, List.cons_append, List.nil_append, List.append_nil, s_seqF, s_ifS, s_blF, s_bind2, s_vF, s_appF, s_consA, s_nilA, s_cF, List.getElem?_cons_zero, List.getElem?_cons_succ, Option.bind_some, s_lenL, List.length_map, s_lt, h', decide_false, Bool.false_eq_true, if_false, s_nxF, s_retF, m, s_add, s_outR]; rfl⟩
theorem mix_val (c : Int) : ∃ z : Int, 0 ≤ z ∧ g_l_mix [.int c, .int 1] = some (.int z) := by
  have m1 : mulD (.int 8) (.int 1) = _ := mulD_ok (mulOk_l (by decide) (by decide))
  have m2 : mulD (.int (8 * 1)) (.int 1) = _ := mulD_ok (mulOk_l (by omega) (by omega))
  have m3 : ∀ y, mulD (.int (c % 2147483629 + 1 + 1)) (.int y) = _ := fun y => mulD_ok (mulOk_l (by omega) (by omega))
  have m4 : ∀ x : Int, mulD (.int (x % 2147483647)) (.int (x % 2147483647)) = _ := fun x => mulD_ok (mulOk_l (by omega) (by omega))
  refine ⟨_, ?_, by simp only [g_l_mix, F_l_mix, s_denF, s_startR, List.map_cons, List.map_nil, List.length_cons, List.length_nil, Nat.reduceAdd, Nat.reduceSub, List.replicate, List.cons_append, List.nil_append, s_seqF, s_bind2, s_vF, s_cF, List.getElem?_cons_zero, List.getElem?_cons_succ, Option.bind_some, s_asgF, modD_ok (show (0 : Int) < 2147483629 by decide), s_add, m1, m2, m3, modD_ok (show (0 : Int) < 2147483647 by decide), List.set_cons_succ, List.set_cons_zero, s_retF, m4, modD_ok (show (0 : Int) < 2147483587 by decide), s_outR]; rfl⟩
  omega
def big200 : Int := (10 ^ 50) ^ 4
theorem pow_a : powD (.int 10) (.int 50) = some (.int (10 ^ 50)) := powD_ok ⟨by decide, by decide, by decide +kernel⟩
theorem pow_b : powD (.int (10 ^ 50)) (.int 4) = some (.int big200) := powD_ok ⟨by decide, by decide, by decide +kernel⟩
theorem pow_c : mulD (.int 2) (.int big200) = some (.int (2 * big200)) := mulD_ok (mulOk_l (by decide) (by decide))
theorem sm_small {n : Int} (h1 : -100 ≤ n) (h2 : n ≤ 100) : Sm n := by
  have : (1000 : Nat) ≤ 10 ^ 201 := by decide +kernel
  unfold Sm; omega
theorem sm_big (x : Int) : Sm (x % (2 * big200 - 1) - big200 + 1) := by
  have hp : (0 : Int) < 2 * big200 - 1 := by decide +kernel
  have h1 := Int.emod_nonneg x (Int.ne_of_gt hp)
  have h2 := Int.emod_lt_of_pos x hp
  have h3 : ((10 ^ 201 : Nat) : Int) = 10 * big200 := by decide +kernel
  unfold Sm
  generalize x % (2 * big200 - 1) = y at h1 h2 ⊢
  generalize big200 = B at *
  omega
theorem some_at {a b c d : Int} (ha : Sm a) (hb : Sm b) (hc : Sm c) (hd : Sm d) (k : Int) : ∃ x, Sm x ∧ ixD (.lst [.int a, .int b, .int c, .int d]) (.int (k % 4)) = some (.int x) := by
  have h0 : k % 4 = ((0 : Nat) : Int) ∨ k % 4 = ((1 : Nat) : Int) ∨ k % 4 = ((2 : Nat) : Int) ∨ k % 4 = ((3 : Nat) : Int) := by omega
  rcases h0 with e | e | e | e <;> rw [e]
  · exact ⟨a, ha, atI_nat rfl⟩
  · exact ⟨b, hb, atI_nat rfl⟩
  · exact ⟨c, hc, atI_nat rfl⟩
  · exact ⟨d, hd, atI_nat rfl⟩
theorem number_val (ns : List Int) : ∃ a b, Sm a ∧ Sm b ∧ g_l_number [.lst (ns.map D.int)] = some (pD a b) := by
  obtain ⟨z0, e0⟩ := at_val ns 0 (by omega)
  obtain ⟨z1, e1⟩ := at_val ns 1 (by omega)
  obtain ⟨z2, e2⟩ := at_val ns 2 (by omega)
  have e0 : g_l_at [.lst (ns.map D.int), .int 0] = some (.int z0) := e0
  have e1 : g_l_at [.lst (ns.map D.int), .int 1] = some (.int z1) := e1
  have e2 : g_l_at [.lst (ns.map D.int), .int 2] = some (.int z2) := e2
  obtain ⟨n, hn, e3⟩ := mix_val z0
  have fd : ∀ (x j : Int), 0 < j → j < 2 ^ 64 → fdivD (.int x) (.int j) = some (.int (x / j)) := fun x j h1 h2 => fdivD_ok h1 h2
  have hp : (0 : Int) < 2 * big200 - 1 := by decide +kernel
  have hs4 : (4 : Nat) ≤ sizeLine := sz1 (by omega)
  have hs2 : (2 : Nat) ≤ sizeLine := sz1 (by omega)
  obtain ⟨x, hx, ex⟩ := some_at (a := 0) (b := 1) (c := 0 - 1) (d := n / 9 % 41 - 20) (sm_small (by decide) (by decide)) (sm_small (by decide) (by decide)) (sm_small (by decide) (by decide)) (sm_small (by omega) (by omega)) (n / 400)
  obtain ⟨y, hy, ey⟩ := some_at (a := 0) (b := 1) (c := 0 - 1) (d := n / 9 % 41 - 20) (sm_small (by decide) (by decide)) (sm_small (by decide) (by decide)) (sm_small (by decide) (by decide)) (sm_small (by omega) (by omega)) (n / 1600)
  have run : ∀ a b, F_l_number [.fr (.lst (ns.map D.int)), .no, .no, .no, .no] = some (.rt (pD a b)) → g_l_number [.lst (ns.map D.int)] = some (pD a b) := fun a b h => by
    show outD (F_l_number [.fr (.lst (ns.map D.int)), .no, .no, .no, .no]) = _
    rw [h]; rfl
  have st : F_l_number [.fr (.lst (ns.map D.int)), .no, .no, .no, .no] =
      (seqF (ifS (blF (bind2 eqF (bind2 modD (vF 1) (cF (.int 3))) (cF (.int 0)))) (setIF 3 (bind2 modD (bind2 fdivD (vF 1) (cF (.int 3))) (cF (.int 2))) (bind2 addX (bind2 subD (bind2 modD (appF g_l_at (consA (vF 0) (consA (cF (.int 1)) nilA))) (vF 4)) (bind2 powD (bind2 powD (cF (.int 10)) (cF (.int 50))) (cF (.int 4)))) (cF (.int 1)))) nxF) (seqF (ifS (blF (bind2 eqF (bind2 modD (vF 1) (cF (.int 9))) (cF (.int 0)))) (asgN 3 (lstF (consA (bind2 addX (bind2 subD (bind2 modD (appF g_l_at (consA (vF 0) (consA (cF (.int 1)) nilA))) (vF 4)) (bind2 powD (bind2 powD (cF (.int 10)) (cF (.int 50))) (cF (.int 4)))) (cF (.int 1))) (consA (bind2 addX (bind2 subD (bind2 modD (appF g_l_at (consA (vF 0) (consA (cF (.int 2)) nilA))) (vF 4)) (bind2 powD (bind2 powD (cF (.int 10)) (cF (.int 50))) (cF (.int 4)))) (cF (.int 1))) nilA)))) nxF) (retF (tupF (consA (bind2 ixD (vR 3) (cF (.int 0))) (consA (bind2 ixD (vR 3) (cF (.int 1))) nilA))))))
      [.fr (.lst (ns.map D.int)), .fr (.int n), .fr (.lst [.int 0, .int 1, .int (0 - 1), .int (n / 9 % 41 - 20)]), .ol [.int x, .int y], .fr (.int (2 * big200 - 1))] := by
    unfold F_l_number
    rw [seq_nx (ρ' := [.fr (.lst (ns.map D.int)), .fr (.int n), .no, .no, .no]) (by simp only [s_asgF, s_appF, s_consA, s_nilA, s_vF, s_cF, List.getElem?_cons_zero, Option.bind_some, e0, e3, List.set_cons_succ, List.set_cons_zero]),
      seq_nx (ρ' := [.fr (.lst (ns.map D.int)), .fr (.int n), .fr (.lst [.int 0, .int 1, .int (0 - 1), .int (n / 9 % 41 - 20)]), .no, .no]) (by simp only [s_asgF, s_mapLst, s_lstF, s_consA, s_nilA, s_vF, s_cF, s_bind2, List.getElem?_cons_zero, List.getElem?_cons_succ, Option.bind_some, s_sub, fd n 9 (by decide) (by decide), modD_ok (show (0 : Int) < 41 by decide), List.length_cons, List.length_nil, Nat.reduceAdd, hs4, if_true, Option.map_some, List.set_cons_succ, List.set_cons_zero]),
      seq_nx (ρ' := [.fr (.lst (ns.map D.int)), .fr (.int n), .fr (.lst [.int 0, .int 1, .int (0 - 1), .int (n / 9 % 41 - 20)]), .ol [.int x, .int y], .no]) (by simp only [s_asgN, s_lstF, s_consA, s_nilA, s_vF, s_cF, s_bind2, List.getElem?_cons_zero, List.getElem?_cons_succ, Option.bind_some, fd n 400 (by decide) (by decide), fd n 1600 (by decide) (by decide), modD_ok (show (0 : Int) < 4 by decide), ex, ey, List.length_cons, List.length_nil, Nat.reduceAdd, hs2, if_true, List.set_cons_succ, List.set_cons_zero]),
      seq_nx (ρ' := [.fr (.lst (ns.map D.int)), .fr (.int n), .fr (.lst [.int 0, .int 1, .int (0 - 1), .int (n / 9 % 41 - 20)]), .ol [.int x, .int y], .fr (.int (2 * big200 - 1))]) (by simp only [s_asgF, s_bind2, s_cF, Option.bind_some, pow_a, pow_b, pow_c, s_sub, List.set_cons_succ, List.set_cons_zero])]
  have v1 : ∀ (s2 s3 : FL.Slot), bind2 addX (bind2 subD (bind2 modD (appF g_l_at (consA (vF 0) (consA (cF (.int 1)) nilA))) (vF 4)) (bind2 powD (bind2 powD (cF (.int 10)) (cF (.int 50))) (cF (.int 4)))) (cF (.int 1)) [.fr (.lst (ns.map D.int)), .fr (.int n), s2, s3, .fr (.int (2 * big200 - 1))] = some (.int (z1 % (2 * big200 - 1) - big200 + 1)) := fun s2 s3 => by
    simp only [s_bind2, s_appF, s_consA, s_nilA, s_vF, s_cF, List.getElem?_cons_zero, List.getElem?_cons_succ, Option.bind_some, e1, modD_ok hp, pow_a, pow_b, s_sub, s_add]
  have v2 : ∀ (s2 s3 : FL.Slot), bind2 addX (bind2 subD (bind2 modD (appF g_l_at (consA (vF 0) (consA (cF (.int 2)) nilA))) (vF 4)) (bind2 powD (bind2 powD (cF (.int 10)) (cF (.int 50))) (cF (.int 4)))) (cF (.int 1)) [.fr (.lst (ns.map D.int)), .fr (.int n), s2, s3, .fr (.int (2 * big200 - 1))] = some (.int (z2 % (2 * big200 - 1) - big200 + 1)) := fun s2 s3 => by
    simp only [s_bind2, s_appF, s_consA, s_nilA, s_vF, s_cF, List.getElem?_cons_zero, List.getElem?_cons_succ, Option.bind_some, e2, modD_ok hp, pow_a, pow_b, s_sub, s_add]
  have j0 : ∀ a b : Int, ixD (.lst [.int a, .int b]) (.int 0) = some (.int a) := fun a b => atI_nat (j := 0) rfl
  have j1 : ∀ a b : Int, ixD (.lst [.int a, .int b]) (.int 1) = some (.int b) := fun a b => atI_nat (j := 1) rfl
  have fin : ∀ (a b : Int) (s1 s2 s4 : FL.Slot), retF (tupF (consA (bind2 ixD (vR 3) (cF (.int 0))) (consA (bind2 ixD (vR 3) (cF (.int 1))) nilA))) [.fr (.lst (ns.map D.int)), s1, s2, .ol [.int a, .int b], s4] = some (.rt (pD a b)) := fun a b s1 s2 s4 => by
    simp only [s_retF, s_tupF, s_consA, s_nilA, s_bind2, s_vR, s_cF, List.getElem?_cons_zero, List.getElem?_cons_succ, Option.bind_some, j0, j1, List.length_cons, List.length_nil, Nat.reduceAdd, hs2, if_true, pD]
  have step2 : ∀ (a b : Int) (s2 : FL.Slot), Sm a → Sm b → ∃ a' b', Sm a' ∧ Sm b' ∧ (seqF (ifS (blF (bind2 eqF (bind2 modD (vF 1) (cF (.int 9))) (cF (.int 0)))) (asgN 3 (lstF (consA (bind2 addX (bind2 subD (bind2 modD (appF g_l_at (consA (vF 0) (consA (cF (.int 1)) nilA))) (vF 4)) (bind2 powD (bind2 powD (cF (.int 10)) (cF (.int 50))) (cF (.int 4)))) (cF (.int 1))) (consA (bind2 addX (bind2 subD (bind2 modD (appF g_l_at (consA (vF 0) (consA (cF (.int 2)) nilA))) (vF 4)) (bind2 powD (bind2 powD (cF (.int 10)) (cF (.int 50))) (cF (.int 4)))) (cF (.int 1))) nilA)))) nxF) (retF (tupF (consA (bind2 ixD (vR 3) (cF (.int 0))) (consA (bind2 ixD (vR 3) (cF (.int 1))) nilA)))))
      [.fr (.lst (ns.map D.int)), .fr (.int n), s2, .ol [.int a, .int b], .fr (.int (2 * big200 - 1))] = some (.rt (pD a' b')) := fun a b s2 ha hb => by
    by_cases c : n % 9 = 0
    · refine ⟨_, _, sm_big z1, sm_big z2, ?_⟩
      rw [seq_nx (ρ' := [.fr (.lst (ns.map D.int)), .fr (.int n), s2, .ol [.int (z1 % (2 * big200 - 1) - big200 + 1), .int (z2 % (2 * big200 - 1) - big200 + 1)], .fr (.int (2 * big200 - 1))]) ?_]
      · exact fin _ _ _ _ _
      · rw [s_ifS]
        have t : blF (bind2 eqF (bind2 modD (vF 1) (cF (.int 9))) (cF (.int 0))) [.fr (.lst (ns.map D.int)), .fr (.int n), s2, .ol [.int a, .int b], .fr (.int (2 * big200 - 1))] = some true := by
          simp only [s_blF, s_bind2, s_vF, s_cF, List.getElem?_cons_zero, List.getElem?_cons_succ, Option.bind_some, modD_ok (show (0 : Int) < 9 by decide), s_eqi, c, decide_true]
        rw [t, Option.bind_some, if_pos rfl, s_asgN, s_lstF, s_consA, v1, Option.bind_some, s_consA, v2]
        simp only [s_nilA, Option.bind_some, List.length_cons, List.length_nil, Nat.reduceAdd, hs2, if_true, List.set_cons_succ, List.set_cons_zero]
    · refine ⟨a, b, ha, hb, ?_⟩
      rw [seq_nx (ρ' := [.fr (.lst (ns.map D.int)), .fr (.int n), s2, .ol [.int a, .int b], .fr (.int (2 * big200 - 1))]) ?_]
      · exact fin _ _ _ _ _
      · rw [s_ifS]
        have t : blF (bind2 eqF (bind2 modD (vF 1) (cF (.int 9))) (cF (.int 0))) [.fr (.lst (ns.map D.int)), .fr (.int n), s2, .ol [.int a, .int b], .fr (.int (2 * big200 - 1))] = some false := by
          simp only [s_blF, s_bind2, s_vF, s_cF, List.getElem?_cons_zero, List.getElem?_cons_succ, Option.bind_some, modD_ok (show (0 : Int) < 9 by decide), s_eqi, c, decide_false]
        rw [t, Option.bind_some, if_neg Bool.false_ne_true, s_nxF]
  by_cases c : n % 3 = 0
  · have t : blF (bind2 eqF (bind2 modD (vF 1) (cF (.int 3))) (cF (.int 0))) [.fr (.lst (ns.map D.int)), .fr (.int n), .fr (.lst [.int 0, .int 1, .int (0 - 1), .int (n / 9 % 41 - 20)]), .ol [.int x, .int y], .fr (.int (2 * big200 - 1))] = some true := by
      simp only [s_blF, s_bind2, s_vF, s_cF, List.getElem?_cons_zero, List.getElem?_cons_succ, Option.bind_some, modD_ok (show (0 : Int) < 3 by decide), s_eqi, c, decide_true]
    have hk : n / 3 % 2 = 0 ∨ n / 3 % 2 = 1 := by omega
    have key : bind2 modD (bind2 fdivD (vF 1) (cF (.int 3))) (cF (.int 2)) [.fr (.lst (ns.map D.int)), .fr (.int n), .fr (.lst [.int 0, .int 1, .int (0 - 1), .int (n / 9 % 41 - 20)]), .ol [.int x, .int y], .fr (.int (2 * big200 - 1))] = some (.int (n / 3 % 2)) := by
      simp only [s_bind2, s_vF, s_cF, List.getElem?_cons_zero, List.getElem?_cons_succ, Option.bind_some, fd n 3 (by decide) (by decide), modD_ok (show (0 : Int) < 2 by decide)]
    rcases hk with hk | hk
    · obtain ⟨a', b', h1, h2, h3⟩ := step2 (z1 % (2 * big200 - 1) - big200 + 1) y (.fr (.lst [.int 0, .int 1, .int (0 - 1), .int (n / 9 % 41 - 20)])) (sm_big z1) hy
      refine ⟨a', b', h1, h2, run _ _ ?_⟩
      rw [st, seq_nx (ρ' := [.fr (.lst (ns.map D.int)), .fr (.int n), .fr (.lst [.int 0, .int 1, .int (0 - 1), .int (n / 9 % 41 - 20)]), .ol [.int (z1 % (2 * big200 - 1) - big200 + 1), .int y], .fr (.int (2 * big200 - 1))]) ?_]
      · exact h3
      · rw [s_ifS, t, Option.bind_some, if_pos rfl, s_setIF, v1, Option.bind_some, key, hk]
        rfl
    · obtain ⟨a', b', h1, h2, h3⟩ := step2 x (z1 % (2 * big200 - 1) - big200 + 1) (.fr (.lst [.int 0, .int 1, .int (0 - 1), .int (n / 9 % 41 - 20)])) hx (sm_big z1)
      refine ⟨a', b', h1, h2, run _ _ ?_⟩
      rw [st, seq_nx (ρ' := [.fr (.lst (ns.map D.int)), .fr (.int n), .fr (.lst [.int 0, .int 1, .int (0 - 1), .int (n / 9 % 41 - 20)]), .ol [.int x, .int (z1 % (2 * big200 - 1) - big200 + 1)], .fr (.int (2 * big200 - 1))]) ?_]
      · exact h3
      · rw [s_ifS, t, Option.bind_some, if_pos rfl, s_setIF, v1, Option.bind_some, key, hk]
        rfl
  · have t : blF (bind2 eqF (bind2 modD (vF 1) (cF (.int 3))) (cF (.int 0))) [.fr (.lst (ns.map D.int)), .fr (.int n), .fr (.lst [.int 0, .int 1, .int (0 - 1), .int (n / 9 % 41 - 20)]), .ol [.int x, .int y], .fr (.int (2 * big200 - 1))] = some false := by
      simp only [s_blF, s_bind2, s_vF, s_cF, List.getElem?_cons_zero, List.getElem?_cons_succ, Option.bind_some, modD_ok (show (0 : Int) < 3 by decide), s_eqi, c, decide_false]
    obtain ⟨a', b', h1, h2, h3⟩ := step2 x y (.fr (.lst [.int 0, .int 1, .int (0 - 1), .int (n / 9 % 41 - 20)])) hx hy
    refine ⟨a', b', h1, h2, run _ _ ?_⟩
    rw [st, seq_nx (ρ' := [.fr (.lst (ns.map D.int)), .fr (.int n), .fr (.lst [.int 0, .int 1, .int (0 - 1), .int (n / 9 % 41 - 20)]), .ol [.int x, .int y], .fr (.int (2 * big200 - 1))]) ?_]
    · exact h3
    · rw [s_ifS, t, Option.bind_some, if_neg Bool.false_ne_true, s_nxF]
theorem law_true (ns : List Int) (hl : ns.length ≤ 63) : g_law [.lst (ns.map D.int)] = some (.bl true) := by
  obtain ⟨a, b, ha, hb, e1⟩ := number_val ns
  have e2 := shown_val ha hb
  have e3 := text_val ha hb
  have e4 := read_val ha hb
  have q1 : eqF (.str (sh a b)) (.str (sh a b)) = some (.bl true) := by rw [eqs]; simp
  have q2 : eqF (pD a b) (pD a b) = some (.bl true) := by simp [eqF, pD, dep, depL, eqD, eqDL]
  have q3 : isTy "str" (.str (sh a b)) = some (.bl true) := rfl
  simp only [g_law, F_law, s_denF, s_startR, List.map_cons, List.map_nil, List.length_cons, List.length_nil, Nat.reduceAdd, Nat.reduceSub, List.replicate, List.cons_append, List.nil_append, s_seqF, s_asgF, s_appF, s_consA, s_nilA, s_vF, s_cF, s_bind1, s_bind2, List.getElem?_cons_zero, List.getElem?_cons_succ, Option.bind_some, e1, e2, e3, e4, List.set_cons_succ, List.set_cons_zero, s_retF, s_andV, q1, q2, q3, if_true, s_outR]

end Pk03
open PySem PySem.W PyProof.Rows FL L2 in
set_option maxRecDepth 100000 in
set_option maxHeartbeats 0 in
theorem PySem.Challenge.cw_mirrorhouse_k03_numbers_shown_holds : PySem.Challenge.rw_mirrorhouse_k03_numbers_shown.Holds := by
  w_on; o_law; k_head; (case hw => w_witness2)
  k_fill
  refine L2.walk_ofK (l := PySem.Challenge.rw_mirrorhouse_k03_numbers_shown) (n := 63) (k := 3) (x := "_law_script") (CX := CX0) (sp := fun K => FL.spF K 1 Pk03.g_law) rfl (by decide) rfl ⟨rfl, by decide, by decide⟩ (fun w h Y => PySem.W.kIn_of Y) ?F (fun K H a ns hl _ hS => FL.law_sp hS (Pk03.law_true ns hl)) (fun _ _ _ _ z => z)
  case F =>
    intro w mg fa h KX G hmg
    refine' Pk03.all_mk KX G hmg ?a0 ?l0 ?c0 ?k0 ?a1 ?l1 ?c1 ?k1 ?a2 ?l2 ?c2 ?k2 ?a3 ?l3 ?c3 ?k3 ?a4 ?l4 ?c4 ?k4 ?a5 ?l5 ?c5 ?k5 ?a6 ?l6 ?c6 ?k6 ?a7 ?l7 ?c7 ?k7 ?a8 ?l8 ?c8 ?k8 ?a9 ?l9 ?c9 ?k9 ?b_int ?b_isinstance ?b_len ?b_max ?b_str
    (case a0 => k_is)
    (case l0 => k_is)
    (case c0 => k_is)
    (case k0 => k_is)
    (case a1 => k_is)
    (case l1 => k_is)
    (case c1 => k_is)
    (case k1 => k_is)
    (case a2 => k_is)
    (case l2 => k_is)
    (case c2 => k_is)
    (case k2 => k_is)
    (case a3 => k_is)
    (case l3 => k_is)
    (case c3 => k_is)
    (case k3 => k_is)
    (case a4 => k_is)
    (case l4 => k_is)
    (case c4 => k_is)
    (case k4 => k_is)
    (case a5 => k_is)
    (case l5 => k_is)
    (case c5 => k_is)
    (case k5 => k_is)
    (case a6 => k_is)
    (case l6 => k_is)
    (case c6 => k_is)
    (case k6 => k_is)
    (case a7 => k_is)
    (case l7 => k_is)
    (case c7 => k_is)
    (case k7 => k_is)
    (case a8 => k_is)
    (case l8 => k_is)
    (case c8 => k_is)
    (case k8 => k_is)
    (case a9 => k_is)
    (case l9 => k_is)
    (case c9 => k_is)
    (case k9 => k_is)
    (case b_int => k_is)
    (case b_isinstance => k_is)
    (case b_len => k_is)
    (case b_max => k_is)
    (case b_str => k_is)


