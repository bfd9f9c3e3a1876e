import PyProof.Rows.All
import Wide.All
import OpenK.AllK
import Wide.FinOn
import PyProof.EqAt
import PyProof.EqKinds
import PyProof.TupleCall
import PyProof.ListMulAny
import KE.KIsAll
import Lean
import PySem.Challenge.RW_mirrorhouse_k61_kinds
set_option Elab.async false
set_option linter.all false
set_option maxRecDepth 100000
namespace L2
open PySem PySem.Spec PyProof.Rows
abbrev Key := Sum Int Str
def keyIs : Key → Value → Bool
  | .inl k, v => Value.isInt k v
  | .inr x, v => Value.isStrOf x v
def keyH (w : World) : Key → Int
  | .inl k => hashInt k
  | .inr x => hashStr w x
theorem keyIs_shape : ∀ {k : Key} {v : Value}, keyIs k v = true → (∃ i t, k = Sum.inl i ∧ v = Value.int i t) ∨ (∃ x t, k = Sum.inr x ∧ v = Value.str x t)
  | .inl i, v, h => by
    obtain ⟨t, e⟩ := Value.isInt_shape (k := i) (v := v) h
    exact .inl ⟨i, t, rfl, e⟩
  | .inr x, v, h => by
    obtain ⟨t, e⟩ := Value.isStrOf_shape (x := x) (v := v) h
    exact .inr ⟨x, t, rfl, e⟩
theorem key_ll (a b : Int) : decide ((Sum.inl a : Key) = Sum.inl b) = (a == b) := by
  by_cases e : a = b
  · subst e; simp
  · have h : ¬ (Sum.inl a : Key) = Sum.inl b := fun q => e (Sum.inl.inj q)
    rw [decide_eq_false h]
    exact (beq_eq_false_iff_ne.mpr e).symm
theorem key_rr (a b : Str) : decide ((Sum.inr a : Key) = Sum.inr b) = decide (a = b) := by
  by_cases e : a = b
  · subst e; simp
  · have h : ¬ (Sum.inr a : Key) = Sum.inr b := fun q => e (Sum.inr.inj q)
    rw [decide_eq_false h, decide_eq_false e]
theorem key_lr (a : Int) (b : Str) : decide ((Sum.inl a : Key) = Sum.inr b) = false := decide_eq_false (fun q => nomatch q)
theorem key_rl (a : Str) (b : Int) : decide ((Sum.inr a : Key) = Sum.inl b) = false := decide_eq_false (fun q => nomatch q)
def mixKind (prog : Program) (w : World) : PySem.KeyKind prog w Key where
  is := keyIs
  hash := keyH w
  inj := fun v a b ha hb => by
    rcases keyIs_shape ha with ⟨i, t, rfl, rfl⟩ | ⟨x, t, rfl, rfl⟩
    · rcases keyIs_shape hb with ⟨j, u, rfl, e⟩ | ⟨y, u, rfl, e⟩
      · injection e with e1 _; rw [e1]
      · exact nomatch e
    · rcases keyIs_shape hb with ⟨j, u, rfl, e⟩ | ⟨y, u, rfl, e⟩
      · exact nomatch e
      · injection e with e1 _; rw [e1]
  byValue := fun k v h => by
    rcases keyIs_shape h with ⟨i, t, rfl, rfl⟩ | ⟨x, t, rfl, rfl⟩ <;> rfl
  pyHash := fun hv h => by
    rcases keyIs_shape hv with ⟨i, t, rfl, rfl⟩ | ⟨x, t, rfl, rfl⟩
    · exact wpAny_pyHash_int h
    · exact wpAny_pyHash_str h
  eqBool := fun hu hv h => by
    rcases keyIs_shape hu with ⟨i, t, rfl, rfl⟩ | ⟨x, t, rfl, rfl⟩
    · rcases keyIs_shape hv with ⟨j, u, rfl, rfl⟩ | ⟨y, u, rfl, rfl⟩
      · rw [key_ll] at h; exact wpAny_eqBool_int h
      · rw [key_lr] at h; exact SeqAt.EqAt.int_str i t y u _ _ _ _ h
    · rcases keyIs_shape hv with ⟨j, u, rfl, rfl⟩ | ⟨y, u, rfl, rfl⟩
      · rw [key_rl] at h; exact SeqAt.EqAt.str_int x t j u _ _ _ _ h
      · rw [key_rr] at h; exact wpAny_eqBool_str h
  «strs» := fun k x t v h => by
    rcases keyIs_shape h with ⟨i, u, rfl, e⟩ | ⟨y, u, rfl, e⟩
    · exact nomatch e
    · injection e with e1 _
      subst e1
      cases v <;> rfl
end L2
namespace L2
open PySem PySem.Spec PyProof.Rows
inductive V where
  | non | bl (b : Bool) | int (i : Int) | str (x : Str) | byt (b : Array UInt8) | flt (b : UInt64) | ref (a : Addr) | ty (n : String)
  deriving DecidableEq
def RelV : V → Value → Prop
  | .non, u => u = Value.none
  | .bl b, u => u = Value.bool b
  | .int i, u => ∃ t, u = Value.int i t
  | .str x, u => ∃ t, u = Value.str x t
  | .byt b, u => ∃ t, u = Value.bytes b t
  | .flt b, u => ∃ t, u = Value.float b t
  | .ref a, u => u = Value.ref a
  | .ty n, u => u = Value.type n
abbrev Vals : List V → List Value → Prop := Paired RelV
theorem Vals.length {xs : List V} {us : List Value} (r : Vals xs us) : xs.length = us.length := Paired.length r
theorem Vals.get : ∀ {xs : List V} {us : List Value} {i : Nat} {x : V}, Vals xs us → xs[i]? = some x → ∃ u, us[i]? = some u ∧ RelV x u
  | _, _, _, _, .nil, e => by simp at e
  | _, _, 0, _, .cons r _, e => by simp at e; subst e; exact ⟨_, rfl, r⟩
  | _, _, i + 1, x, .cons _ t, e => by
    obtain ⟨u, h1, h2⟩ := Vals.get (i := i) (x := x) t (by simpa using e)
    exact ⟨u, by simpa using h1, h2⟩
theorem Vals.set {x : V} {u : Value} (r : RelV x u) : ∀ {xs : List V} {us : List Value} (i : Nat), Vals xs us → Vals (xs.set i x) (us.set i u)
  | _, _, _, .nil => .nil
  | _, _, 0, .cons _ t => .cons r t
  | _, _, i + 1, .cons q t => .cons q (Vals.set r i t)
theorem Vals.append : ∀ {xs ys : List V} {us ws : List Value}, Vals xs us → Vals ys ws → Vals (xs ++ ys) (us ++ ws)
  | _, _, _, _, .nil, s => s
  | _, _, _, _, .cons r t, s => .cons r (Vals.append t s)
theorem Vals.take : ∀ {xs : List V} {us : List Value} (n : Nat), Vals xs us → Vals (xs.take n) (us.take n)
  | _, _, 0, _ => .nil
  | _, _, _ + 1, .nil => .nil
  | _, _, n + 1, .cons r t => .cons r (Vals.take n t)
theorem Vals.drop : ∀ {xs : List V} {us : List Value} (n : Nat), Vals xs us → Vals (xs.drop n) (us.drop n)
  | _, _, 0, r => r
  | _, _, _ + 1, .nil => .nil
  | _, _, n + 1, .cons _ t => Vals.drop n t
def RelO : Option V → Option Value → Prop
  | some v, some u => RelV v u
  | none, none => True
  | _, _ => False
def KV {κ : Type} : List (κ × V) → List (κ × Value) → Prop := Paired fun (p : κ × V) (q : κ × Value) => p.1 = q.1 ∧ RelV p.2 q.2
def kV : Key → V
  | .inl i => .int i
  | .inr x => .str x
inductive HO where
  /-- a list -/
  | lst (xs : List V)
  /-- a tuple (never changes) -/
  | tup (xs : List V)
  /-- a dict whose keys are ints and texts; one whose keys are tuples of ints and texts (the empty one is both) -/
  | dK (kvs : List (Key × V)) | dT (kvs : List (List Key × V))
  /-- a set of ints: its members, its size -/
  | set (S : Int → Bool) (n : Nat)
  /-- an instance of the class at C, its dict at dx, its attributes -/
  | ins (C dx : Addr) (fs : List (Str × V))
  /-- the dict of the instance at x -/
  | own (x : Addr)
  /-- the dict of an exception -/
  | xd (fs : List (Str × V))
  /-- a bound method, f of x -/
  | met (f x : Addr)
  /-- a range object lo, lo + 1, .. below hi -/
  | rng (lo hi : Int)
  /-- a thing that is known to the object (the script; a dict while a loop walks it): read, never written while it is so -/
  | frz (o : Obj) (u : HO)
  /-- a code object's table -/
  | tbl (ps : Array Value)
  /-- any other thing, by what is true of its one object (a def of one's own: SetO a S n := HO.ext fun h => ..) -/
  | ext (φ : Heap → Prop)
abbrev Hp := Addr → Option HO
def upd (H : Hp) (a : Addr) (o : HO) : Hp := fun b => if b = a then some o else H b
theorem upd_same {H : Hp} {a : Addr} {o : HO} : upd H a o a = some o := by unfold upd; rw [if_pos rfl]
theorem upd_ne {H : Hp} {a b : Addr} {o : HO} (h : b ≠ a) : upd H a o b = H b := by unfold upd; rw [if_neg h]
theorem ne_of_none {H : Hp} {a b : Addr} {o : HO} (h : H a = some o) (h' : H b = none) : a ≠ b := by
  intro e; subst e; rw [h] at h'; cases h'
section
variable (P : Program) (w : World)
def ObjOk (H : Hp) (h : Heap) (a : Addr) : HO → Prop
  | .lst xs => xs.length ≤ sizeLine ∧ ∃ (its : List Value) (n : Nat), Vals xs its ∧ h.get? a = some { cls := .type "list", data := .seq its.toArray n }
  | .tup xs => xs.length ≤ sizeLine ∧ ∃ its : List Value, Vals xs its ∧ IsTup h a its.toArray
  | .dK kvs => kvs.length ≤ sizeLine ∧ (a == sysModules) = false ∧ ∃ vs, KV kvs vs ∧ h.DictOf (mixKind P w) a vs
  | .dT kvs => kvs.length ≤ sizeLine ∧ (a == sysModules) = false ∧ ∃ xs : List (List Key × Addr × Value),
      Paired (fun (p : List Key × V) (q : List Key × Addr × Value) => p.1 = q.1 ∧ H q.2.1 = some (.tup (p.1.map kV)) ∧ RelV p.2 q.2.2) kvs xs ∧
      ∃ o es ep, h.get? a = some o ∧ o.ExactDict ∧ o.data = .dict es ep ∧ es.toList = xs.map (entryOfKey (tupleKind (mixKind P w))) ∧ (xs.map (·.1)).Nodup
  | .set S n => h.SetOf (intKind P w) a S n
  | .ins C dx fs => H dx = some (.own a) ∧ fs.length ≤ 1000 ∧ dx ≠ a ∧ h.get? a = some (PySem.W.instObj C dx) ∧
      ∃ mA, h.Ns1 dx mA ∧ (∀ f, RelO (fs.lookup f) (mA f)) ∧ PySem.Within mA (fs.map (·.1))
  | .own _ => ∃ o, h.get? a = some o
  | .xd fs => ∃ mA, h.Ns1 a mA ∧ ∀ f, RelO (fs.lookup f) (mA f)
  | .rng lo hi => ∃ t u v, h.get? a = some { cls := .type "range", data := .fields #[.int lo t, .int hi u, .int 1 v] }
  | .frz o u => h.get? a = some o ∧ ObjOk H h a u
  | .tbl ps => h.get? a = some { cls := .none, data := .fields ps }
  | .met f x => h.get? a = some (PySem.W.methodObj (.ref f) (.ref x))
  | .ext φ => φ h ∧ (∃ o, h.get? a = some o) ∧ ∀ h1 h2 : Heap, φ h1 → (∀ o, h1.get? a = some o → h2.get? a = some o) → φ h2
def HOk (H : Hp) (h : Heap) : Prop := ∀ a o, H a = some o → ObjOk P w H h a o
end
section
variable {P : Program} {w : World} {H H' : Hp} {h h' : Heap} {a : Addr} {o : HO}
theorem ObjOk.lt (x : ObjOk P w H h a o) : a < h.objs.size := by
  cases o with
  | lst xs => obtain ⟨_, _, _, _, e⟩ := x; exact Heap.lt_size e
  | tup xs => obtain ⟨_, _, _, p⟩ := x; exact p.lt
  | dK kvs => obtain ⟨_, _, _, _, o, _, _, e, _⟩ := x; exact Heap.lt_size e
  | dT kvs => obtain ⟨_, _, _, _, o, _, _, e, _⟩ := x; exact Heap.lt_size e
  | set S n => obtain ⟨o, _, _, _, e, _⟩ := x; exact Heap.lt_size e
  | ins C dx fs => obtain ⟨_, _, _, e, _⟩ := x; exact Heap.lt_size e
  | own y => obtain ⟨_, e⟩ := x; exact Heap.lt_size e
  | xd fs => obtain ⟨_, ⟨_, _, _, e, _⟩, _⟩ := x; exact Heap.lt_size e
  | rng lo hi => obtain ⟨_, _, _, e⟩ := x; exact Heap.lt_size e
  | frz ob u => obtain ⟨e, _⟩ := x; exact Heap.lt_size e
  | tbl ps => exact Heap.lt_size (show h.get? a = some _ from x)
  | met f y => exact Heap.lt_size (show h.get? a = some _ from x)
  | ext φ => obtain ⟨_, ⟨_, e⟩, _⟩ := x; exact Heap.lt_size e
theorem Paired.mapP {α β : Type} {F G : α → β → Prop} : ∀ {l₁ : List α} {l₂ : List β}, Paired F l₁ l₂ → (∀ a b, F a b → G a b) → Paired G l₁ l₂
  | _, _, .nil, _ => .nil
  | _, _, .cons r t, f => .cons (f _ _ r) (Paired.mapP t f)
theorem ObjOk.stay (x : ObjOk P w H h a o) (k : ∀ b u, (b = a ∨ H b = some (.own a)) → h.get? b = some u → h'.get? b = some u)
    (ho : ∀ b, H b = some (.own a) → H' b = some (.own a)) (ht : ∀ b xs, H b = some (.tup xs) → H' b = some (.tup xs)) : ObjOk P w H' h' a o := by
  induction o with
  | lst xs => obtain ⟨z, its, n, r, e⟩ := x; exact ⟨z, its, n, r, k _ _ (.inl rfl) e⟩
  | tup xs => obtain ⟨z, its, r, ob, e, c⟩ := x; exact ⟨z, its, r, ob, k _ _ (.inl rfl) e, c⟩
  | dK kvs => obtain ⟨z, y, vs, r, ob, es, ep, e, c⟩ := x; exact ⟨z, y, vs, r, ob, es, ep, k _ _ (.inl rfl) e, c⟩
  | dT kvs =>
    obtain ⟨z, y, xs, r, ob, es, ep, e, c⟩ := x
    exact ⟨z, y, xs, Paired.mapP r fun p q z => ⟨z.1, ht _ _ z.2.1, z.2.2⟩, ob, es, ep, k _ _ (.inl rfl) e, c⟩
  | set S n => obtain ⟨ob, es, ep, t, e, c⟩ := x; exact ⟨ob, es, ep, t, k _ _ (.inl rfl) e, c⟩
  | ins C dx fs =>
    obtain ⟨d, z, ne, e, mA, ⟨od, es, ep, e2, c⟩, r⟩ := x
    exact ⟨ho _ d, z, ne, k _ _ (.inl rfl) e, mA, ⟨od, es, ep, k _ _ (.inr d) e2, c⟩, r⟩
  | own y => obtain ⟨ob, e⟩ := x; exact ⟨ob, k _ _ (.inl rfl) e⟩
  | xd fs => obtain ⟨mA, ⟨od, es, ep, e, c⟩, r⟩ := x; exact ⟨mA, ⟨od, es, ep, k _ _ (.inl rfl) e, c⟩, r⟩
  | rng lo hi => obtain ⟨t, u, v, e⟩ := x; exact ⟨t, u, v, k _ _ (.inl rfl) e⟩
  | frz ob u ih => obtain ⟨e, q⟩ := x; exact ⟨k _ _ (.inl rfl) e, ih q⟩
  | tbl ps =>
    have e : h.get? a = some { cls := .none, data := .fields ps } := x
    show h'.get? a = some { cls := .none, data := .fields ps }
    exact k a _ (.inl rfl) e
  | met f y =>
    have e : h.get? a = some (PySem.W.methodObj (.ref f) (.ref y)) := x
    show h'.get? a = some (PySem.W.methodObj (.ref f) (.ref y))
    exact k a _ (.inl rfl) e
  | ext φ => obtain ⟨p, ⟨o, e⟩, st⟩ := x; exact ⟨st _ _ p fun o q => k _ _ (.inl rfl) q, ⟨o, k _ _ (.inl rfl) e⟩, st⟩
theorem HOk.lt (x : HOk P w H h) (e : H a = some o) : a < h.objs.size := (x a o e).lt
theorem HOk.fresh (x : HOk P w H h) (e : h.objs.size ≤ a) : H a = none := by
  cases q : H a with
  | none => rfl
  | some u => exact absurd (Nat.lt_of_lt_of_le (x.lt q) e) (Nat.lt_irrefl _)
theorem HOk.kept (x : HOk P w H h) (k : ∀ b u, h.get? b = some u → h'.get? b = some u) : HOk P w H h' := fun a o e =>
  (x a o e).stay (fun b u _ q => k b u q) (fun _ q => q) fun _ _ q => q
theorem HOk.laid (x : HOk P w H h) (k : ∀ b u, h.get? b = some u → h'.get? b = some u) (hp : h.objs.size ≤ a) (new : ObjOk P w (upd H a o) h' a o) : HOk P w (upd H a o) h' := fun b u e => by
  have hn := x.fresh hp
  by_cases hb : b = a
  · subst hb; rw [upd_same] at e; cases e; exact new
  · rw [upd_ne hb] at e
    exact (x b u e).stay (fun c v _ q => k c v q) (fun c q => by rw [upd_ne (ne_of_none q hn)]; exact q) fun c xs q => by rw [upd_ne (ne_of_none q hn)]; exact q
end
def Rd (H : Hp) (a : Addr) (u : HO) : Prop := H a = some u ∨ ∃ o, H a = some (.frz o u)
theorem Rd.ok {P : Program} {w : World} {H : Hp} {h : Heap} {a : Addr} {u : HO} (r : Rd H a u) (x : HOk P w H h) : ObjOk P w H h a u := by
  rcases r with r | ⟨o, r⟩
  · exact x a u r
  · obtain ⟨_, q⟩ := x a _ r
    exact q
def Mut : Option HO → Prop
  | some (.lst _) => True
  | some (.dK _) => True
  | some (.dT _) => True
  | some (.set _ _) => True
  | some (.ins _ _ _) => True
  | some (.ext _) => True
  | _ => False
section
variable {P : Program} {w : World} {H : Hp} {h h' : Heap} {x e : Addr} {o' : HO}
theorem HOk.write (ok : HOk P w H h) (mu : Mut (H x)) (he : e = x ∨ H e = some (.own x)) (k : ∀ b u, b ≠ e → h.get? b = some u → h'.get? b = some u) (heo : ∃ u, h'.get? e = some u)
    (new : ObjOk P w (upd H x o') h' x o') : HOk P w (upd H x o') h' := fun b u q => by
  have nown : ∀ c y, H c = some (.own y) → c ≠ x := fun c y r z => by subst z; rw [r] at mu; exact mu
  have ntup : ∀ c xs, H c = some (.tup xs) → c ≠ x := fun c xs r z => by subst z; rw [r] at mu; exact mu
  by_cases hb : b = x
  · subst hb; rw [upd_same] at q; cases q; exact new
  · rw [upd_ne hb] at q
    by_cases hbe : b = e
    · have q' : H b = some (.own x) := by
        rcases he with z | z
        · exact absurd (hbe.trans z) hb
        · rw [hbe]; exact z
      rw [q] at q'; cases q'
      obtain ⟨v, hv⟩ := heo
      exact ⟨v, by rw [hbe]; exact hv⟩
    · refine (ok b u q).stay (fun c v hc r => k c v ?_ r) (fun c r => by rw [upd_ne (nown c b r)]; exact r) fun c xs r => by rw [upd_ne (ntup c xs r)]; exact r
      rcases hc with rfl | hc
      · exact hbe
      · rintro rfl
        rcases he with z | z
        · exact nown c b hc z
        · rw [hc] at z; cases z; exact hb rfl
end
structure Un (fs ex : List Addr) (H H' : Hp) (h h' : Heap) : Prop where
  keep : ∀ b o, h.get? b = some o → H b = none → b ∉ fs → b ∉ ex → h'.get? b = some o
  slot : ∀ b o, h.get? b = some o → H b = none → b ∈ fs → b ∉ ex → ∃ sl, h'.get? b = some { o with slots := sl }
  free : ∀ b o, h.get? b = some o → H b = none → b ∉ ex → H' b = none
  there : ∀ b o, h.get? b = some o → b ∉ ex → ∃ o', h'.get? b = some o'
  tups : ∀ b xs, H b = some (.tup xs) → H' b = some (.tup xs)
  frzs : ∀ b o u, H b = some (.frz o u) → H' b = some (.frz o u)
  tbls : ∀ b ps, H b = some (.tbl ps) → ∃ more, H' b = some (.tbl (ps ++ more))
section
variable {fs fs' ex ex' : List Addr} {H H1 H2 : Hp} {h h1 h2 h' : Heap} {a x e : Addr} {o : HO}
theorem Un.any (u : Un fs ex H H1 h h1) {b : Addr} {ob : Obj} (q : h.get? b = some ob) (n : H b = none) (hx : b ∉ ex) : ∃ sl, h1.get? b = some { ob with slots := sl } := by
  by_cases hb : b ∈ fs
  · exact u.slot b ob q n hb hx
  · exact ⟨ob.slots, u.keep b ob q n hb hx⟩
theorem Un.kept (k : ∀ b u, h.get? b = some u → h'.get? b = some u) : Un fs ex H H h h' :=
  ⟨fun b ob q _ _ _ => k b ob q, fun b ob q _ _ _ => ⟨ob.slots, k b ob q⟩, fun _ _ _ n _ => n, fun b ob q _ => ⟨ob, k b ob q⟩, fun _ _ q => q, fun _ _ _ q => q, fun _ ps q => ⟨#[], by rw [q]; simp⟩⟩
theorem Un.refl : Un fs ex H H h h := Un.kept fun _ _ q => q
theorem Un.laid (k : ∀ b u, h.get? b = some u → h'.get? b = some u) (hp : h.objs.size ≤ a) (hn : H a = none) : Un fs ex H (upd H a o) h h' where
  keep := fun b u q _ _ _ => k b u q
  slot := fun b u q _ _ _ => ⟨u.slots, k b u q⟩
  free := fun b u q n _ => by rw [upd_ne (Nat.ne_of_lt (Nat.lt_of_lt_of_le (Heap.lt_size q) hp))]; exact n
  there := fun b u q _ => ⟨u, k b u q⟩
  tups := fun b xs q => by rw [upd_ne (ne_of_none q hn)]; exact q
  frzs := fun b u xs q => by rw [upd_ne (ne_of_none q hn)]; exact q
  tbls := fun b ps q => ⟨#[], by rw [upd_ne (ne_of_none q hn), q]; simp⟩
theorem Un.write (mu : Mut (H x)) (he : e = x ∨ H e = some (.own x)) (k : ∀ b u, b ≠ e → h.get? b = some u → h'.get? b = some u) (heo : ∃ u, h'.get? e = some u) : Un fs ex H (upd H x o) h h' := by
  have hx : ∀ b, H b = none → b ≠ x := fun b n z => by subst z; rw [n] at mu; exact mu
  have hb : ∀ b, H b = none → b ≠ e := fun b n z => by
    subst z
    rcases he with r | r
    · exact hx b n r
    · rw [n] at r; cases r
  have hm : ∀ b u, H b = some u → ¬ Mut (some u) → b ≠ x := fun b u q nm z => by subst z; rw [q] at mu; exact nm mu
  refine ⟨fun b u q n _ _ => k b u (hb b n) q, fun b u q n _ _ => ⟨u.slots, k b u (hb b n) q⟩, fun b u q n _ => by rw [upd_ne (hx b n)]; exact n, fun b u q _ => ?_,
    fun b xs q => by rw [upd_ne (hm b _ q fun z => z)]; exact q, fun b u xs q => by rw [upd_ne (hm b _ q fun z => z)]; exact q, fun b ps q => ⟨#[], by rw [upd_ne (hm b _ q fun z => z), q]; simp⟩⟩
  by_cases hbe : b = e
  · subst hbe; exact heo
  · exact ⟨u, k b u hbe q⟩
end
def trk (h : Heap) (H : Hp) : List Addr := (List.range h.objs.size).filter fun a => (H a).isSome
def hidT (h : Heap) (H : Hp) : Heap := PySem.W.hideAll h (trk h H)
theorem hidT_size (h : Heap) (H : Hp) : (hidT h H).objs.size = h.objs.size := PySem.W.hideAll_size _ _
theorem hidT_get {h : Heap} {H : Hp} {b : Addr} {o : Obj} (e : h.get? b = some o) (n : H b = none) : (hidT h H).get? b = some o :=
  PySem.W.hideAll_get _ e fun hm => by
    have q : (H b).isSome = true := (List.mem_filter.mp hm).2
    rw [n] at q; simp at q
theorem of_hidT {h : Heap} {H : Hp} {b : Addr} {o : Obj} (e : (hidT h H).get? b = some o) : h.get? b = some o ∧ H b = none := by
  have e' : h.get? b = some o := PySem.W.of_hideAll (trk h H) e
  refine ⟨e', ?_⟩
  cases q : H b with
  | none => rfl
  | some x =>
    have hm : b ∈ trk h H := List.mem_filter.mpr ⟨List.mem_range.mpr (Heap.lt_size e'), by simp [q]⟩
    have z : (hidT h H).get? b = none := PySem.W.hideAll_none (trk h H) hm
    rw [z] at e; cases e
def allNews (g h : Heap) (L : Addr) : List (Addr × Obj) := (List.range h.objs.size).filterMap fun a => if a = L ∨ (g.get? a).isSome = true then none else (h.get? a).map fun o => (a, o)
def rest (g h : Heap) (L d : Addr) : List (Addr × Obj) := (allNews g h L).filter fun p => decide (p.1 ≠ d)
end L2
namespace L2
open PySem PySem.Spec PyProof.Rows
structure Mod (K : PySem.W.Frag) (mg : Str → Option Value) (base : Heap) : Prop where
  kin : K.In base
  glob : base.Ns mainGlobals mg
  blt : ∃ mb, base.Ns builtinsNs mb ∧ ∀ x : Str, x ≠ "__name__" → mb x = bootBuiltins x
  nolimit : base.NoLimit
structure Cx where
  prog : Program
  w : World
  K : PySem.W.Frag
  mg : Str → Option Value
  base : Heap
  A : Around
  N : List Str
  s₀ : Shared
  H₀ : Hp
  env : Env
  outer : List Env
  stack : List Env
  ex : List Addr
  fn : Str → Bool
  calm : Bool
  pn : List (Addr × Obj)
  xe : Value → Shared → Prop
def frs (l : List Env) : List Addr := l.filterMap (·.frame)
abbrev Cx.fs (X : Cx) : List Addr := frs X.outer
def Vis (sc : Scope) (x : Str) : Prop := sc.names.lookup x = some .local ∨ sc.names.lookup x = some .cell ∨ sc.names.lookup x = some .free
def Loc (sc : Scope) (x : Str) : Prop := sc.names.lookup x = some .local ∨ sc.names.lookup x = some .cell
def Look (env : Env) (h : Heap) (m : Str → Option Value) (x : Str) (u : Value) : Prop :=
  (env.kindOf x = some .local ∧ m x = some u) ∨ ((env.kindOf x = some .cell ∨ env.kindOf x = some .free) ∧ ∃ c, env.cells.lookup x = some c ∧ h.IsCell c (some u))
structure Cx.Ok (X : Cx) : Prop where
  mod : Mod X.K X.mg X.base
  kind : X.env.scope.kind = .function
  glob : X.env.globals = mainGlobals
  blt : X.env.builtins = builtinsNs
  above : X.s₀.heap.objs.size ≤ X.env.locals
  inj : ∀ x y c, X.env.cells.lookup x = some c → X.env.cells.lookup y = some c → x = y
  has : ∀ x, (X.env.kindOf x = some .cell ∨ X.env.kindOf x = some .free) → ∃ c, X.env.cells.lookup x = some c
  cab : ∀ x c, X.fn x = true → X.env.cells.lookup x = some c → X.s₀.heap.objs.size ≤ c
  hd : X.calm = true → X.A.handled = none
  frames : X.A.frames = some X.stack
  stk : X.stack = X.outer ∨ (X.stack = X.env :: X.outer ∧ X.env.frame = some X.env.locals)
  exf : ∀ b ∈ X.ex, b ≠ X.env.locals ∧ ∀ x c, X.env.cells.lookup x = some c → c ≠ b
  bs : ∀ b o, X.base.get? b = some o → X.s₀.heap.get? b = some o ∧ X.H₀ b = none
  bsz : X.base.objs.size ≤ X.s₀.heap.objs.size
  noex : ∀ b o, X.base.get? b = some o → b ∉ X.ex
  exfs : ∀ b ∈ X.ex, b ∉ X.fs
  funs : X.s₀.heap.FunFrames X.base X.outer
  frf : ∀ b ∈ X.fs, X.H₀ b = none
structure Inv (X : Cx) (pins : List (Addr × Obj)) (σ : List (Option V)) (H : Hp) (s : Shared) : Prop where
  ok : X.Ok
  os : s.os = X.s₀.os
  bare : AllBare s.gens
  base : Un X.fs X.ex X.H₀ H X.s₀.heap s.heap
  loc : ∃ m, s.heap.Ns X.env.locals m ∧ ∀ (i : Nat) (x : Str) (v : V), X.N[i]? = some x → σ[i]? = some (some v) → Vis X.env.scope x → ∃ u, RelV v u ∧ Look X.env s.heap m x u
  cell : ∀ x c, X.env.cells.lookup x = some c → ∃ v, s.heap.IsCell c v
  free : H X.env.locals = none
  freeC : ∀ x c, X.env.cells.lookup x = some c → H c = none
  pin : ∀ p ∈ X.pn ++ pins, s.heap.get? p.1 = some p.2 ∧ H p.1 = none ∧ p.1 ≠ X.env.locals ∧ p.1 ∉ X.fs ∧ ∀ v, p.2.data ≠ .cell v
  hok : HOk X.prog X.w H s.heap
  len : σ.length = X.N.length
section
variable {X : Cx} {pins : List (Addr × Obj)} {σ : List (Option V)} {H H' : Hp} {s : Shared} {h' : Heap}
theorem Cx.Ok.nofr (ok : X.Ok) {b : Addr} {o : Obj} (e : X.base.get? b = some o) : b ∉ X.fs := fun hb => by
  have := (ok.funs.mem hb).1
  rw [e] at this; cases this
theorem Inv.bs (I : Inv X pins σ H s) : ∀ b o, X.base.get? b = some o → s.heap.get? b = some o ∧ H b = none := fun b o e =>
  ⟨I.base.keep b o (I.ok.bs b o e).1 (I.ok.bs b o e).2 (I.ok.nofr e) (I.ok.noex b o e), I.base.free b o (I.ok.bs b o e).1 (I.ok.bs b o e).2 (I.ok.noex b o e)⟩
theorem Inv.bk (I : Inv X pins σ H s) : ∀ b o, X.base.get? b = some o → s.heap.get? b = some o := fun b o e => (I.bs b o e).1
theorem Inv.mod (I : Inv X pins σ H s) : Mod X.K X.mg X.base := I.ok.mod
theorem Inv.kIn (I : Inv X pins σ H s) : X.K.In s.heap := I.ok.mod.kin.keeps I.bk
theorem Inv.lt (I : Inv X pins σ H s) : X.env.locals < s.heap.objs.size := let ⟨_, hn, _⟩ := I.loc; hn.lt
theorem Inv.sz (I : Inv X pins σ H s) : X.s₀.heap.objs.size ≤ s.heap.objs.size := Nat.le_trans I.ok.above (Nat.le_of_lt I.lt)
theorem Inv.nofs (I : Inv X pins σ H s) {a : Addr} (h : s.heap.objs.size ≤ a) : a ∉ X.fs := fun hb => by
  obtain ⟨_, o, ho, _⟩ := I.ok.funs.mem hb
  exact absurd (Nat.lt_of_lt_of_le (Heap.lt_size ho) (Nat.le_trans I.sz h)) (Nat.lt_irrefl _)
theorem Inv.cne (I : Inv X pins σ H s) : ∀ x c, X.env.cells.lookup x = some c → c ≠ X.env.locals := fun x c e z => by
  obtain ⟨v, o, ho, hd⟩ := I.cell x c e
  obtain ⟨m, ⟨o', es, ep, ho', hd', _⟩, _⟩ := I.loc
  rw [z, ho'] at ho; cases ho; rw [hd'] at hd; cases hd
theorem Inv.funs (I : Inv X pins σ H s) : s.heap.FunFrames X.base X.outer := by
  have all : ∀ (l : List Env), (∀ b ∈ frs l, b ∈ X.fs) → X.s₀.heap.FunFrames X.base l → s.heap.FunFrames X.base l := by
    intro l
    induction l with
    | nil => intro _ _; trivial
    | cons env r ih =>
      intro hs hl
      obtain ⟨hk, ⟨L, o, hf, hn, ho, hd⟩, hr⟩ := hl
      have hL : L ∈ X.fs := hs L (by unfold frs; rw [List.filterMap_cons, hf]; exact List.mem_cons_self)
      obtain ⟨sl, e⟩ := I.base.slot L o ho (I.ok.frf L hL) hL fun z => I.ok.exfs L z hL
      exact ⟨hk, ⟨L, _, hf, hn, e, hd⟩, ih (fun b hb => hs b (by unfold frs; rw [List.filterMap_cons, hf]; exact List.mem_cons_of_mem _ hb)) hr⟩
  exact all X.outer (fun _ hb => hb) I.ok.funs
theorem Inv.stack (I : Inv X pins σ H s) : s.heap.FunFrames X.base X.stack := by
  rcases I.ok.stk with e | ⟨e, hf⟩
  · rw [e]; exact I.funs
  · rw [e]
    obtain ⟨m, hn, _⟩ := I.loc
    refine .cons (by rw [I.ok.kind]; decide) hf hn ?_ I.funs
    exact Heap.get?_none_of_le (Nat.le_trans I.ok.bsz I.ok.above)
theorem Inv.stkSub (I : Inv X pins σ H s) : ∀ b ∈ frs X.stack, b ∈ X.env.locals :: X.fs := fun b hb => by
  rcases I.ok.stk with e | ⟨e, hf⟩
  · rw [e] at hb; exact List.mem_cons_of_mem _ hb
  · rw [e] at hb
    unfold frs at hb
    rw [List.filterMap_cons, hf] at hb
    exact hb
theorem Inv.stkFree (I : Inv X pins σ H s) : ∀ b ∈ frs X.stack, H b = none := fun b hb => by
  rcases List.mem_cons.mp (I.stkSub b hb) with e | hb
  · rw [e]; exact I.free
  · obtain ⟨_, o, ho, _⟩ := I.ok.funs.mem hb
    exact I.base.free b o ho (I.ok.frf b hb) fun z => I.ok.exfs b z hb
theorem Inv.step {g' : Array GenState} {t' : Nat} {d' : Drawn} {ch : List Addr} (I : Inv X pins σ H s)
    (hch : ∀ b ∈ ch, (b ∈ X.ex ∨ X.s₀.heap.objs.size ≤ b) ∧ b ≠ X.env.locals ∧ (∀ x c, X.env.cells.lookup x = some c → c ≠ b) ∧ ∀ p ∈ X.pn ++ pins, p.1 ≠ b)
    (keep : ∀ b o, b ≠ X.env.locals → b ∉ X.fs → b ∉ ch → s.heap.get? b = some o → H b = none → h'.get? b = some o)
    (slot : ∀ b o, b ≠ X.env.locals → b ∈ X.fs → b ∉ ch → s.heap.get? b = some o → H b = none → ∃ sl, h'.get? b = some { o with slots := sl }) (free : ∀ b o, b ∉ ch → s.heap.get? b = some o → H b = none → H' b = none)
    (there : ∀ b o, b ∉ ch → s.heap.get? b = some o → ∃ o', h'.get? b = some o')
    (tups : ∀ b xs, H b = some (.tup xs) → H' b = some (.tup xs)) (frzs : ∀ b o u, H b = some (.frz o u) → H' b = some (.frz o u)) (tbls : ∀ b ps, H b = some (.tbl ps) → ∃ more, H' b = some (.tbl (ps ++ more)))
    (ns : ∀ m, s.heap.Ns X.env.locals m → h'.Ns X.env.locals m) (hok : HOk X.prog X.w H' h') (hg : AllBare g') :
    Inv X pins σ H' { s with heap := h', gens := g', drawn := d', toks := t' } := by
  have neL : ∀ b o, X.s₀.heap.get? b = some o → b ≠ X.env.locals := fun b o e => Nat.ne_of_lt (Nat.lt_of_lt_of_le (Heap.lt_size e) I.ok.above)
  have neC : ∀ b o, X.s₀.heap.get? b = some o → b ∉ X.ex → b ∉ ch := fun b o e hx hb => by
    rcases (hch b hb).1 with z | z
    · exact hx z
    · exact absurd (Nat.lt_of_lt_of_le (Heap.lt_size e) z) (Nat.lt_irrefl _)
  have cellK : ∀ x c, X.env.cells.lookup x = some c → ∀ v, s.heap.IsCell c v → h'.IsCell c v := fun x c e v ⟨o, ho, hd⟩ => by
    have nch : c ∉ ch := fun z => (hch c z).2.2.1 x c e rfl
    by_cases hc : c ∈ X.fs
    · obtain ⟨sl, q⟩ := slot c o (I.cne x c e) hc nch ho (I.freeC x c e)
      exact ⟨_, q, hd⟩
    · exact ⟨o, keep c o (I.cne x c e) hc nch ho (I.freeC x c e), hd⟩
  refine ⟨I.ok, I.os, hg, ⟨fun b o e n hb hx => ?_, fun b o e n hb hx => ?_, fun b o e n hx => ?_, fun b o e hx => ?_, fun b xs e => tups b xs (I.base.tups b xs e), fun b o xs e => frzs b o xs (I.base.frzs b o xs e), fun b ps e => ?_⟩, ?_, fun x c e => ?_, ?_, fun x c e => ?_, fun p hp => ?_, hok, I.len⟩
  · exact keep b o (neL b o e) hb (neC b o e hx) (I.base.keep b o e n hb hx) (I.base.free b o e n hx)
  · obtain ⟨sl, e1⟩ := I.base.slot b o e n hb hx
    obtain ⟨sl', e2⟩ := slot b _ (neL b o e) hb (neC b o e hx) e1 (I.base.free b o e n hx)
    exact ⟨sl', e2⟩
  · obtain ⟨o', e1⟩ := I.base.there b o e hx
    exact free b o' (neC b o e hx) e1 (I.base.free b o e n hx)
  · obtain ⟨o', e1⟩ := I.base.there b o e hx
    exact there b o' (neC b o e hx) e1
  · obtain ⟨m1, e1⟩ := I.base.tbls b ps e
    obtain ⟨m2, e2⟩ := tbls b _ e1
    exact ⟨m1 ++ m2, by rw [e2, Array.append_assoc]⟩
  · obtain ⟨m, hn, hl⟩ := I.loc
    refine ⟨m, ns m hn, fun i x v e1 e2 e3 => ?_⟩
    obtain ⟨u, r, l⟩ := hl i x v e1 e2 e3
    refine ⟨u, r, ?_⟩
    rcases l with l | ⟨k, c, e, z⟩
    · exact .inl l
    · exact .inr ⟨k, c, e, cellK x c e _ z⟩
  · obtain ⟨v, z⟩ := I.cell x c e
    exact ⟨v, cellK x c e v z⟩
  · obtain ⟨m, ⟨o, _, _, ho, _⟩, _⟩ := I.loc
    exact free _ o (fun z => (hch _ z).2.1 rfl) ho I.free
  · obtain ⟨v, o, ho, hd⟩ := I.cell x c e
    exact free c o (fun z => (hch c z).2.2.1 x c e rfl) ho (I.freeC x c e)
  · obtain ⟨e, n, ne, nf, d⟩ := I.pin p hp
    have nch : p.1 ∉ ch := fun z => (hch p.1 z).2.2.2 p hp rfl
    exact ⟨keep p.1 p.2 ne nf nch e n, free p.1 p.2 nch e n, ne, nf, d⟩
theorem Inv.un {t' : Nat} (I : Inv X pins σ H s) (u : Un X.fs [] H H' s.heap h') (hok : HOk X.prog X.w H' h') : Inv X pins σ H' { s with heap := h', toks := t' } := by
  obtain ⟨m, ⟨o, es, ep, ho, r⟩, _⟩ := id I.loc
  obtain ⟨sl, hL⟩ := u.any ho I.free (by simp)
  exact I.step (g' := s.gens) (d' := s.drawn) (ch := []) (fun _ z => nomatch z) (fun b o _ hb _ e n => u.keep b o e n hb (by simp)) (fun b o _ hb _ e n => u.slot b o e n hb (by simp)) (fun b o _ e n => u.free b o e n (by simp)) (fun b o _ e => u.there b o e (by simp)) u.tups u.frzs u.tbls (fun m' hm => by
    obtain ⟨o', es', ep', ho', r'⟩ := hm
    rw [ho] at ho'; cases ho'
    exact ⟨_, es', ep', hL, r'⟩) hok I.bare
theorem Inv.call {g' : Array GenState} {t' : Nat} {d' : Drawn} {ch : List Addr} (I : Inv X pins σ H s) (u : Un (frs X.stack) ch H H' s.heap h') (hok : HOk X.prog X.w H' h') (hg : AllBare g')
    (hch : ∀ b ∈ ch, (b ∈ X.ex ∨ X.s₀.heap.objs.size ≤ b) ∧ b ≠ X.env.locals ∧ (∀ x c, X.env.cells.lookup x = some c → c ≠ b) ∧ ∀ p ∈ X.pn ++ pins, p.1 ≠ b) :
    Inv X pins σ H' { s with heap := h', gens := g', drawn := d', toks := t' } := by
  obtain ⟨m, ⟨o, es, ep, ho, r⟩, _⟩ := id I.loc
  obtain ⟨sl, hL⟩ := u.any ho I.free fun z => (hch _ z).2.1 rfl
  exact I.step (ch := ch) hch (fun b o hL hb hc e n => u.keep b o e n (fun z => (List.mem_cons.mp (I.stkSub b z)).elim hL hb) hc) (fun b o _ _ hc e n => u.any e n hc) (fun b o hc e n => u.free b o e n hc) (fun b o hc e => u.there b o e hc) u.tups u.frzs u.tbls (fun m' hm => by
    obtain ⟨o', es', ep', ho', r'⟩ := hm
    rw [ho] at ho'; cases ho'
    exact ⟨_, es', ep', hL, r'⟩) hok hg
theorem Inv.turned {t' : Nat} {it : Addr} (I : Inv X pins σ H s) (k : ∀ b o, b ≠ it → s.heap.get? b = some o → h'.get? b = some o) (hn : H it = none) (hL : it ≠ X.env.locals)
    (h1 : it ∈ X.ex ∨ X.s₀.heap.objs.size ≤ it) (h2 : ∀ x c, X.env.cells.lookup x = some c → c ≠ it) (h3 : ∀ p ∈ X.pn ++ pins, p.1 ≠ it) : Inv X pins σ H { s with heap := h', toks := t' } := by
  have nit : ∀ b u, H b = some u → b ≠ it := fun b u e z => by rw [z, hn] at e; cases e
  refine I.step (g' := s.gens) (d' := s.drawn) (ch := [it]) (fun b hb => ?_) (fun b o _ _ hc e _ => k b o (fun z => hc (by simp [z])) e) (fun b o _ _ hc e _ => ⟨o.slots, k b o (fun z => hc (by simp [z])) e⟩) (fun _ _ _ _ n => n)
    (fun b o hc e => ⟨o, k b o (fun z => hc (by simp [z])) e⟩) (fun _ _ e => e) (fun _ _ _ e => e) (fun b ps e => ⟨#[], by rw [e]; simp⟩) (fun m hm => ?_) (fun b u e => ?_) I.bare
  · have e : b = it := by simpa using hb
    subst e
    exact ⟨h1, hL, h2, h3⟩
  · obtain ⟨o, es, ep, ho, r⟩ := hm
    exact ⟨o, es, ep, k _ o (Ne.symm hL) ho, r⟩
  · refine (I.hok b u e).stay (fun c v hc q => k c v ?_ q) (fun _ q => q) fun _ _ q => q
    rcases hc with z | z
    · rw [z]; exact nit b u e
    · exact nit c _ z
theorem Inv.tok (I : Inv X pins σ H s) (t : Nat) : Inv X pins σ H { s with toks := t } := I.un (h' := s.heap) (t' := t) Un.refl I.hok
theorem Inv.kept {t' : Nat} (I : Inv X pins σ H s) (k : ∀ b u, s.heap.get? b = some u → h'.get? b = some u) : Inv X pins σ H { s with heap := h', toks := t' } := I.un (Un.kept k) (I.hok.kept k)
theorem Inv.laid {a : Addr} {o : HO} {t' : Nat} (I : Inv X pins σ H s) (k : ∀ b u, s.heap.get? b = some u → h'.get? b = some u) (hp : s.heap.objs.size ≤ a) (new : ObjOk X.prog X.w (upd H a o) h' a o) :
    Inv X pins σ (upd H a o) { s with heap := h', toks := t' } := I.un (Un.laid k hp (I.hok.fresh hp)) (I.hok.laid k hp new)
theorem Inv.write {x e : Addr} {o : HO} {t' : Nat} (I : Inv X pins σ H s) (mu : Mut (H x)) (he : e = x ∨ H e = some (.own x)) (k : ∀ b u, b ≠ e → s.heap.get? b = some u → h'.get? b = some u) (heo : ∃ u, h'.get? e = some u)
    (new : ObjOk X.prog X.w (upd H x o) h' x o) : Inv X pins σ (upd H x o) { s with heap := h', toks := t' } := I.un (Un.write mu he k heo) (I.hok.write mu he k heo new)
theorem Inv.pins_of {pins' : List (Addr × Obj)} (I : Inv X pins σ H s) (h : ∀ p ∈ pins', s.heap.get? p.1 = some p.2 ∧ H p.1 = none ∧ p.1 ≠ X.env.locals ∧ p.1 ∉ X.fs ∧ ∀ v, p.2.data ≠ .cell v) : Inv X pins' σ H s :=
  ⟨I.ok, I.os, I.bare, I.base, I.loc, I.cell, I.free, I.freeC, fun p hp => (List.mem_append.mp hp).elim (fun z => I.pin p (List.mem_append_left _ z)) (h p), I.hok, I.len⟩
theorem nodup_ix {N : List Str} (hN : N.Nodup) {i j : Nat} {x : Str} (a : N[i]? = some x) (b : N[j]? = some x) : i = j := by
  obtain ⟨h1, e1⟩ := List.getElem?_eq_some_iff.mp a
  obtain ⟨h2, e2⟩ := List.getElem?_eq_some_iff.mp b
  exact (List.getElem_inj hN).mp (e1.trans e2.symm)
theorem store_ok2 {M : Model} {A : Around} {E : Value → Shared → Prop} {i : Nat} {x : Str} {v : V} {u : Value} {Q : Unit → Shared → Prop} (I : Inv X pins σ H s) (hN : X.N.Nodup) (hi : X.N[i]? = some x) (hx : Loc X.env.scope x) (r : RelV v u)
    (h : ∀ s', Inv X pins (σ.set i (some v)) H s' → (∃ a, Heap.SameBut a s.heap s'.heap ∧ (a = X.env.locals ∨ X.env.cells.lookup x = some a)) → Q () s') (hf : X.fn x = true ∨ X.env.scope.names.lookup x = some .local := by first | exact .inl rfl | exact .inr rfl | assumption) : wpAny M A (storeName X.env x u) Q E s := by
  obtain ⟨m, hn, hl⟩ := id I.loc
  have hcls : (X.env.scope.kind == .class || (X.env.scope.kind == .module && X.env.locals != X.env.globals)) = false := by rw [I.ok.kind]; rfl
  have hiσ : i < σ.length := by rw [I.len]; exact (List.getElem?_eq_some_iff.mp hi).1
  have cne := I.cne
  have tracked : ∀ {a : Addr} {h' : Heap}, (∃ o, s.heap.get? a = some o ∧ H a = none) → Heap.SameBut a s.heap h' → HOk X.prog X.w H h' := fun {a h'} ha hs b ob e => by
    obtain ⟨_, _, hfree⟩ := ha
    refine (I.hok b ob e).stay (fun c w' hc q => (hs.2 c ?_).trans q) (fun _ q => q) fun _ _ q => q
    rintro rfl
    rcases hc with rfl | hc
    · rw [hfree] at e; cases e
    · rw [hfree] at hc; cases hc
  rcases hx with hk | hk
  · refine wpAny_storeName_local hk hn (fun h' hn' hs => ?_) hcls
    obtain ⟨oL, _, _, hoL, _⟩ := id hn
    refine h _ ⟨I.ok, I.os, I.bare, ⟨fun b o e n hb hx => ?_, fun b o e n hb hx => ?_, I.base.free, fun b o e hx => ?_, I.base.tups, I.base.frzs, I.base.tbls⟩, ⟨_, hn', fun j y v' e1 e2 e3 => ?_⟩, fun y c e => ?_, I.free, I.freeC, fun p hp => ?_, tracked ⟨oL, hoL, I.free⟩ hs, by simpa using I.len⟩ ⟨_, hs, .inl rfl⟩
    · exact (hs.2 b (Nat.ne_of_lt (Nat.lt_of_lt_of_le (Heap.lt_size e) I.ok.above))).trans (I.base.keep b o e n hb hx)
    · obtain ⟨sl, e1⟩ := I.base.slot b o e n hb hx
      exact ⟨sl, (hs.2 b (Nat.ne_of_lt (Nat.lt_of_lt_of_le (Heap.lt_size e) I.ok.above))).trans e1⟩
    · obtain ⟨o', e1⟩ := I.base.there b o e hx
      exact ⟨o', (hs.2 b (Nat.ne_of_lt (Nat.lt_of_lt_of_le (Heap.lt_size e) I.ok.above))).trans e1⟩
    · by_cases hj : j = i
      · subst hj
        rw [hi] at e1; cases e1
        rw [List.getElem?_set_self hiσ] at e2
        cases e2
        exact ⟨u, r, .inl ⟨hk, by simp⟩⟩
      · rw [List.getElem?_set_ne (Ne.symm hj)] at e2
        obtain ⟨u', r', q⟩ := hl j y v' e1 e2 e3
        refine ⟨u', r', ?_⟩
        rcases q with ⟨k, e⟩ | ⟨k, c, e, z⟩
        · refine .inl ⟨k, ?_⟩
          have : y ≠ x := fun e => hj (nodup_ix hN e1 (e ▸ hi))
          simp [this, e]
        · exact .inr ⟨k, c, e, z.sameBut hs (cne y c e)⟩
    · obtain ⟨w', z⟩ := I.cell y c e
      exact ⟨w', z.sameBut hs (cne y c e)⟩
    · obtain ⟨e, n, ne, nf, d⟩ := I.pin p hp
      exact ⟨(hs.2 p.1 ne).trans e, n, ne, nf, d⟩
  · have hfn : X.fn x = true := by
      rcases hf with z | z
      · exact z
      · rw [z] at hk; cases hk
    obtain ⟨c, hc⟩ := I.ok.has x (.inl hk)
    obtain ⟨w', z⟩ := I.cell x c hc
    refine wpAny_storeName_cell I.ok.kind hk hc z (fun h' hc' hs => ?_)
    obtain ⟨oc, hoc, hocd⟩ := id z
    refine h { s with heap := h' } ⟨I.ok, I.os, I.bare, ⟨fun b o e n hb hx => ?_, fun b o e n hb hx => ?_, I.base.free, fun b o e hx => ?_, I.base.tups, I.base.frzs, I.base.tbls⟩, ⟨m, hn.sameBut hs (Ne.symm (cne x c hc)), fun j y v' e1 e2 e3 => ?_⟩, fun y c' e => ?_, I.free, I.freeC, fun p hp => ?_, tracked ⟨oc, hoc, I.freeC x c hc⟩ hs, by simpa using I.len⟩ ⟨c, hs, .inr hc⟩
    · exact (hs.2 b (Nat.ne_of_lt (Nat.lt_of_lt_of_le (Heap.lt_size e) (I.ok.cab x c hfn hc)))).trans (I.base.keep b o e n hb hx)
    · obtain ⟨sl, e1⟩ := I.base.slot b o e n hb hx
      exact ⟨sl, (hs.2 b (Nat.ne_of_lt (Nat.lt_of_lt_of_le (Heap.lt_size e) (I.ok.cab x c hfn hc)))).trans e1⟩
    · obtain ⟨o', e1⟩ := I.base.there b o e hx
      exact ⟨o', (hs.2 b (Nat.ne_of_lt (Nat.lt_of_lt_of_le (Heap.lt_size e) (I.ok.cab x c hfn hc)))).trans e1⟩
    · by_cases hj : j = i
      · subst hj
        rw [hi] at e1; cases e1
        rw [List.getElem?_set_self hiσ] at e2
        cases e2
        exact ⟨u, r, .inr ⟨.inl hk, c, hc, hc'⟩⟩
      · rw [List.getElem?_set_ne (Ne.symm hj)] at e2
        obtain ⟨u', r', q⟩ := hl j y v' e1 e2 e3
        refine ⟨u', r', ?_⟩
        rcases q with q | ⟨k, c', e, z'⟩
        · exact .inl q
        · refine .inr ⟨k, c', e, z'.sameBut hs ?_⟩
          rintro rfl
          exact hj (nodup_ix hN e1 (I.ok.inj _ _ _ e hc ▸ hi))
    · by_cases hcc : c' = c
      · subst hcc; exact ⟨_, hc'⟩
      · obtain ⟨w2, z2⟩ := I.cell y c' e
        exact ⟨w2, z2.sameBut hs hcc⟩
    · obtain ⟨e, n, ne, nf, d⟩ := I.pin p hp
      refine ⟨(hs.2 p.1 ?_).trans e, n, ne, nf, d⟩
      intro q
      rw [q, hoc] at e
      have q' : oc = p.2 := Option.some.inj e
      exact d w' (by rw [← q']; exact hocd)
theorem store_ok {M : Model} {A : Around} {E : Value → Shared → Prop} {i : Nat} {x : Str} {v : V} {u : Value} {Q : Unit → Shared → Prop} (I : Inv X pins σ H s) (hN : X.N.Nodup) (hi : X.N[i]? = some x) (hx : Loc X.env.scope x) (r : RelV v u)
    (h : ∀ s', Inv X pins (σ.set i (some v)) H s' → Q () s') (hf : X.fn x = true ∨ X.env.scope.names.lookup x = some .local := by first | exact .inl rfl | exact .inr rfl | assumption) : wpAny M A (storeName X.env x u) Q E s :=
  store_ok2 I hN hi hx r (fun s' I' _ => h s' I') hf
theorem Inv.call' {s' : Shared} {ch : List Addr} (I : Inv X pins σ H s) (ho : s'.os = s.os) (u : Un (frs X.stack) ch H H' s.heap s'.heap) (hok : HOk X.prog X.w H' s'.heap) (hg : AllBare s'.gens)
    (hch : ∀ b ∈ ch, (b ∈ X.ex ∨ X.s₀.heap.objs.size ≤ b) ∧ b ≠ X.env.locals ∧ (∀ x c, X.env.cells.lookup x = some c → c ≠ b) ∧ ∀ p ∈ X.pn ++ pins, p.1 ≠ b) : Inv X pins σ H' s' := by
  obtain ⟨h', g', d', t', o'⟩ := s'
  have e : o' = s.os := ho
  subst e
  exact I.call (g' := g') (t' := t') (d' := d') u hok hg hch
end
abbrev XK := Value → Option Addr → Hp → Prop
abbrev St := List (Option V)
abbrev VK := V → Hp → Prop
abbrev TE := St → Hp → VK → Prop
abbrev TT := St → Hp → (Bool → Hp → Prop) → Prop
abbrev TA := St → Hp → (List V → Hp → Prop) → Prop
structure Ends where
  nx : St → Hp → Prop
  rt : VK
  bk : St → Hp → Prop := fun _ _ => False
  ct : St → Hp → Prop := fun _ _ => False
abbrev TS := Ends → St → Hp → Prop
def EP (X : Cx) (pins : List (Addr × Obj)) (σ : St) (Q : VK) (u : Value) (s' : Shared) : Prop := ∃ v H', Inv X pins σ H' s' ∧ RelV v u ∧ Q v H'
def TP (X : Cx) (pins : List (Addr × Obj)) (σ : St) (Q : Bool → Hp → Prop) (b : Bool) (s' : Shared) : Prop := ∃ H', Inv X pins σ H' s' ∧ Q b H'
def AP (X : Cx) (pins : List (Addr × Obj)) (σ : St) (Q : List V → Hp → Prop) (us : List Value) (s' : Shared) : Prop := ∃ vs H', Inv X pins σ H' s' ∧ Vals vs us ∧ Q vs H'
def SP (X : Cx) (pins : List (Addr × Obj)) (D : Ends) (f : Flow) (s' : Shared) : Prop :=
  match f with
  | .next => ∃ σ' H', Inv X pins σ' H' s' ∧ D.nx σ' H'
  | .brk => ∃ σ' H', Inv X pins σ' H' s' ∧ D.bk σ' H'
  | .cont => ∃ σ' H', Inv X pins σ' H' s' ∧ D.ct σ' H'
  | .ret u => ∃ v σ' H', Inv X pins σ' H' s' ∧ RelV v u ∧ D.rt v H'
def PE (X : Cx) (e : Expr) (t : TE) : Prop :=
  ∀ (pins : List (Addr × Obj)) (s : Shared) (σ : St) (H : Hp) (Q : VK), Inv X pins σ H s → t σ H Q → wpAny (model X.prog X.w) X.A (eval e X.env) (EP X pins σ Q) X.xe s
def PT (X : Cx) (e : Expr) (t : TT) : Prop :=
  ∀ (pins : List (Addr × Obj)) (s : Shared) (σ : St) (H : Hp) (Q : Bool → Hp → Prop), Inv X pins σ H s → t σ H Q → wpAny (model X.prog X.w) X.A (isTrue e X.env (eval e X.env)) (TP X pins σ Q) X.xe s
def PW (X : Cx) (e : Expr) (t : TT) : Prop :=
  ∀ (whole : Sem Value) (pins : List (Addr × Obj)) (s : Shared) (σ : St) (H : Hp) (Q : Bool → Hp → Prop), Inv X pins σ H s → t σ H Q → wpAny (model X.prog X.w) X.A (isTrue e X.env whole) (TP X pins σ Q) X.xe s
theorem PW.pt {X : Cx} {e : Expr} {t : TT} (h : PW X e t) : PT X e t := h _
def PA (X : Cx) (es : List Expr) (t : TA) : Prop :=
  ∀ (pos : Pos) (pins : List (Addr × Obj)) (s : Shared) (σ : St) (H : Hp) (Q : List V → Hp → Prop), Inv X pins σ H s → t σ H Q → wpAny (model X.prog X.w) X.A (spliced (backTo pos (starEach es X.env))) (AP X pins σ Q) X.xe s
def PS (X : Cx) (st : Stmt) (t : TS) : Prop :=
  ∀ (pins : List (Addr × Obj)) (s : Shared) (σ : St) (H : Hp) (D : Ends), Inv X pins σ H s → t D σ H → wpAny (model X.prog X.w) X.A (exec st X.env) (SP X pins D) X.xe s
def PSs (X : Cx) (st : List Stmt) (t : TS) : Prop :=
  ∀ (pins : List (Addr × Obj)) (s : Shared) (σ : St) (H : Hp) (D : Ends), Inv X pins σ H s → t D σ H → wpAny (model X.prog X.w) X.A (execs st X.env) (SP X pins D) X.xe s
theorem thn {α : Type} {t : Sem α} {Q Q' : α → Shared → Prop} {M : Model} {A : Around} {E : Value → Shared → Prop} {s : Shared} (h : wpAny M A t Q E s) (hQ : ∀ a s, Q a s → Q' a s) : wpAny M A t Q' E s := wpAny_mono h hQ fun _ _ x => x
end L2
namespace L2
open PySem PySem.Spec PyProof.Rows
section
variable {X : Cx}
theorem bin {a b : Expr} {ta tb : TE} (ha : PE X a ta) (hb : PE X b tb) {pins : List (Addr × Obj)} {s : Shared} {σ : St} {H : Hp} {R : V → V → Hp → Prop} (I : Inv X pins σ H s) (h : ta σ H fun x H1 => tb σ H1 fun y H2 => R x y H2)
    {α : Type} {Q : α → Shared → Prop} {f : Value → Value → Sem α}
    (hf : ∀ v u s2 x y H2, Inv X pins σ H2 s2 → RelV x v → RelV y u → R x y H2 → wpAny (model X.prog X.w) X.A (f v u) Q X.xe s2) :
    wpAny (model X.prog X.w) X.A (eval a X.env) (fun v s₁ => wpAny (model X.prog X.w) X.A (eval b X.env) (fun u s₂ => wpAny (model X.prog X.w) X.A (f v u) Q X.xe s₂) X.xe s₁) X.xe s := by
  refine thn (ha pins s σ H _ I h) fun v s1 ⟨x, H1, I1, r1, q1⟩ => ?_
  refine thn (hb pins s1 σ H1 _ I1 q1) fun u s2 ⟨y, H2, I2, r2, q2⟩ => ?_
  exact hf v u s2 x y H2 I2 r1 r2 q2
def tVar (i : Nat) : TE := fun σ H Q => ∃ v, σ[i]? = some (some v) ∧ Q v H
def tC (v : V) : TE := fun _ H Q => Q v H
theorem pe_var {i : Nat} {x : Str} {pos : Pos} (hN : X.N[i]? = some x) (hv : Vis X.env.scope x) (hd : (x == ("__debug__" : Str)) = false := by decide) (hcd : (x == ("__classdict__" : Str)) = false := by decide) : PE X (.Name x pos) (tVar i) := by
  intro pins s σ H Q I h
  obtain ⟨v, e, h⟩ := h
  obtain ⟨m, hn, hl⟩ := I.loc
  obtain ⟨u, r, l⟩ := hl i x v hN e hv
  have fin : EP X pins σ Q u s := ⟨v, H, I, r, h⟩
  rcases l with ⟨hk, hm⟩ | ⟨hk, c, hc, hcell⟩
  · exact wpAny_Name (wpAny_loadName_local I.ok.kind hk hn hm fin) hd
  · rcases hk with hk | hk
    · exact wpAny_Name (wpAny_loadName_cell I.ok.kind hk hc hcell fin) hd
    · exact wpAny_Name (wpAny_loadName_free I.ok.kind hk hc hcell fin hcd) hd
theorem pe_int {i j pos} : PE X (.Constant (.int i) j pos) (tC (.int i)) := fun _ _ _ H _ I h => wpAny_Constant_int ⟨.int i, H, I.tok _, ⟨_, rfl⟩, h⟩
theorem pe_bl {b j pos} : PE X (.Constant (.bool b) j pos) (tC (.bl b)) := fun _ _ _ H _ I h => Constant_bool ⟨.bl b, H, I, rfl, h⟩
theorem pe_non {j pos} : PE X (.Constant .none j pos) (tC .non) := fun _ _ _ H _ I h => Constant_none ⟨.non, H, I, rfl, h⟩
theorem pe_str {x j pos} : PE X (.Constant (.str x) j pos) (tC (.str x)) := fun _ _ _ H _ I h => Calls.Constant_str ⟨.str x, H, I.tok _, ⟨_, rfl⟩, h⟩
def Gl (X : Cx) (x : Str) : Prop := X.env.kindOf x = some .globalImplicit
theorem ld_glob {E : Value → Shared → Prop} {pins : List (Addr × Obj)} {s : Shared} {σ : St} {H : Hp} {x : Str} {u : Value} {pos : Pos} {Q : Value → Shared → Prop} (I : Inv X pins σ H s) (hg : Gl X x) (hm : X.mg x = some u) (h : Q u s)
    (hd : (x == ("__debug__" : Str)) = false := by decide) : wpAny (model X.prog X.w) X.A (eval (.Name x pos) X.env) Q E s :=
  Calls.Name_function_global I.ok.kind hg (Calls.loadGlobal_global (by rw [I.ok.glob]; exact I.mod.glob.keeps I.bk) hm h) hd
theorem ld_blt {E : Value → Shared → Prop} {pins : List (Addr × Obj)} {s : Shared} {σ : St} {H : Hp} {x : Str} {u : Value} {pos : Pos} {Q : Value → Shared → Prop} (I : Inv X pins σ H s) (hg : Gl X x) (hm : X.mg x = none) (hv : bootBuiltins x = some u) (h : Q u s)
    (hn : x ≠ "__name__" := by decide) (hd : (x == ("__debug__" : Str)) = false := by decide) : wpAny (model X.prog X.w) X.A (eval (.Name x pos) X.env) Q E s := by
  obtain ⟨mb, h1, h2⟩ := I.mod.blt
  exact Calls.Name_function_global I.ok.kind hg (Calls.loadGlobal_builtin (by rw [I.ok.glob]; exact I.mod.glob.keeps I.bk) hm (by rw [I.ok.blt]; exact h1.keeps I.bk) ((h2 x hn).trans hv) h) hd
theorem pe_glob {x : Str} {v : V} {u : Value} {pos : Pos} (hg : Gl X x) (hm : X.mg x = some u) (r : RelV v u) (hd : (x == ("__debug__" : Str)) = false := by decide) : PE X (.Name x pos) (tC v) :=
  fun _ _ _ H _ I h => ld_glob I hg hm ⟨v, H, I, r, h⟩ hd
theorem pe_bltn {x : Str} {v : V} {u : Value} {pos : Pos} (hg : Gl X x) (hm : X.mg x = none) (hv : bootBuiltins x = some u) (r : RelV v u) (hn : x ≠ "__name__" := by decide) (hd : (x == ("__debug__" : Str)) = false := by decide) : PE X (.Name x pos) (tC v) :=
  fun _ _ _ H _ I h => ld_blt I hg hm hv ⟨v, H, I, r, h⟩ hn hd
variable {a b : Expr} {ta tb : TE} {pos : Pos}
def PC (X : Cx) (op : CmpOp) (a b : Expr) (t : TE) : Prop :=
  ∀ (pins : List (Addr × Obj)) (s : Shared) (σ : St) (H : Hp) (Q : VK), Inv X pins σ H s → t σ H Q →
    wpAny (model X.prog X.w) X.A (eval a X.env) (fun v s₁ => wpAny (model X.prog X.w) X.A (eval b X.env) (fun u s₂ => wpAny (model X.prog X.w) X.A (compareOp op v u) (EP X pins σ Q) X.xe s₂) X.xe s₁) X.xe s
theorem nobehind (b : Expr) {op : CmpOp} (h : op ≠ .In) (h2 : op ≠ .NotIn) : behindInMarks op b = false := by
  have e1 : (op == CmpOp.In) = false := by cases op <;> first | rfl | exact absurd rfl h
  have e2 : (op == CmpOp.NotIn) = false := by cases op <;> first | rfl | exact absurd rfl h2
  cases b <;> simp [behindInMarks, e1, e2]
def tB (t : TE) : TT := fun σ H Q => t σ H fun x H1 => ∃ c, x = .bl c ∧ Q c H1
theorem pt_cmp {op : CmpOp} {t : TE} (h : PC X op a b t) (h1 : behindInMarks op b = false := by first | exact nobehind _ (by decide) (by decide) | rfl) : PT X (.Compare a [op] [b] pos) (tB t) := by
  intro pins s σ H Q I hw
  refine wpAny_isTrue_Compare1 (thn (h pins s σ H _ I hw) fun v s1 h1 => thn h1 fun u s2 h2 => thn h2 fun c s3 ⟨x, H1, I1, r1, q1⟩ => ?_) h1
  obtain ⟨d, rfl, q⟩ := q1
  cases r1
  exact wpAny_truthy_bool ⟨H1, I1, q⟩
theorem pt_val {e : Expr} {t : TE} (h : PE X e t) (he : ∀ whole, isTrue e X.env whole = (do let v ← whole; standAt e.pos; holding [v] (truthy v)) := by intro _; rfl) : PT X e (tB t) := by
  intro pins s σ H Q I hw
  refine isTrue_plain (thn (h pins s σ H _ I hw) fun v s1 ⟨x, H1, I1, r1, q1⟩ => ?_) (he _)
  obtain ⟨d, rfl, q⟩ := q1
  cases r1
  exact wpAny_truthy_bool ⟨H1, I1, q⟩
variable {tA tB' : TT} {rest : List Expr}
def tAnd (t u : TT) : TT := fun σ H Q => t σ H fun c H1 => if c = true then u σ H1 Q else Q false H1
def tOr (t u : TT) : TT := fun σ H Q => t σ H fun c H1 => if c = true then Q true H1 else u σ H1 Q
def tNot (t : TT) : TT := fun σ H Q => t σ H fun c H1 => Q (!c) H1
theorem pw_and1 (ha : PT X a tA) : PW X (.BoolOp .And [a] pos) tA := by
  intro wh pins s σ H Q I h
  refine isTrue_and (thn (ha pins s σ H Q I h) fun c s1 e => ?_)
  cases c with
  | true => exact isTrue_and_nil e
  | false => exact e
theorem pw_or1 (ha : PT X a tA) : PW X (.BoolOp .Or [a] pos) tA := by
  intro wh pins s σ H Q I h
  refine isTrue_or (thn (ha pins s σ H Q I h) fun c s1 e => ?_)
  cases c with
  | false => exact isTrue_or_nil e
  | true => exact e
theorem pw_and (ha : PT X a tA) (hb : PW X (.BoolOp .And (b :: rest) pos) tB') : PW X (.BoolOp .And (a :: b :: rest) pos) (tAnd tA tB') := by
  intro wh pins s σ H Q I h
  refine isTrue_and (thn (ha pins s σ H _ I h) fun c s1 ⟨H1, I1, q1⟩ => ?_)
  cases c with
  | true => exact hb wh pins s1 σ H1 Q I1 q1
  | false => exact ⟨H1, I1, q1⟩
theorem pw_or (ha : PT X a tA) (hb : PW X (.BoolOp .Or (b :: rest) pos) tB') : PW X (.BoolOp .Or (a :: b :: rest) pos) (tOr tA tB') := by
  intro wh pins s σ H Q I h
  refine isTrue_or (thn (ha pins s σ H _ I h) fun c s1 ⟨H1, I1, q1⟩ => ?_)
  cases c with
  | true => exact ⟨H1, I1, q1⟩
  | false => exact hb wh pins s1 σ H1 Q I1 q1
theorem pt_not (ha : PT X a tA) : PT X (.UnaryOp .Not a pos) (tNot tA) := by
  intro pins s σ H Q I h
  exact isTrue_not (ha pins s σ H (fun c H1 => Q (!c) H1) I h)
def tAndV (ta tb : TE) : TE := fun σ H Q => ta σ H fun x H1 => ∃ c, x = .bl c ∧ if c = true then tb σ H1 Q else Q (.bl false) H1
def tNotV (ta : TE) : TE := fun σ H Q => ta σ H fun x H1 => ∃ c, x = .bl c ∧ Q (.bl (!c)) H1
theorem pe_one {op} {t : TE} (h : PE X a t) : PE X (.BoolOp op [a] pos) t := fun pins s σ H Q I hw => BoolOp_one (h pins s σ H Q I hw)
theorem pe_and (ha : PE X a ta) (hb : PE X (.BoolOp .And (b :: rest) pos) tb) : PE X (.BoolOp .And (a :: b :: rest) pos) (tAndV ta tb) := by
  intro pins s σ H Q I h
  refine BoolOp_and (thn (ha pins s σ H _ I h) fun v s1 ⟨x, H1, I1, r1, q1⟩ => ?_)
  obtain ⟨c, rfl, q1⟩ := q1
  cases r1
  refine wpAny_truthy_bool ?_
  cases c with
  | true => exact hb pins s1 σ H1 Q I1 q1
  | false => exact ⟨.bl false, H1, I1, rfl, q1⟩
theorem pe_not (ha : PE X a ta) : PE X (.UnaryOp .Not a pos) (tNotV ta) := by
  intro pins s σ H Q I h
  refine UnaryOp_ (thn (ha pins s σ H _ I h) fun v s1 ⟨x, H1, I1, r1, q1⟩ => ?_)
  obtain ⟨c, rfl, q1⟩ := q1
  cases r1
  exact not_of (wpAny_truthy_bool ⟨.bl (!c), H1, I1, rfl, q1⟩)
end
end L2
namespace L2
open PySem PySem.Spec PyProof.Rows
def SqL (K : PySem.W.Frag) (H : Hp) (a : Addr) (xs : List V) : Prop :=
  Rd H a (.lst xs) ∨
    ∃ (o : Obj) (its : Array Value) (n : Nat), K.lookup a = some o ∧ o.cls = .type "list" ∧ o.dict = none ∧ o.data = .seq its n ∧ its.size ≤ sizeLine ∧ Vals xs its.toList
def SqT (K : PySem.W.Frag) (H : Hp) (a : Addr) (xs : List V) : Prop :=
  Rd H a (.tup xs) ∨
    ∃ (o : Obj) (its : Array Value) (n : Nat), K.lookup a = some o ∧ o.cls = .type "tuple" ∧ o.data = .seq its n ∧ its.size ≤ sizeLine ∧ Vals xs its.toList
def absV : Value → Option V
  | .none => some .non
  | .bool b => some (.bl b)
  | .int i _ => some (.int i)
  | .str x _ => some (.str x)
  | .bytes b _ => some (.byt b)
  | .float b _ => some (.flt b)
  | .ref a => some (.ref a)
  | .type n => some (.ty n)
  | _ => none
theorem RelV.abs {x : V} {u : Value} (r : RelV x u) : absV u = some x := by
  cases x with
  | non => cases r; rfl
  | bl _ => cases r; rfl
  | int _ => obtain ⟨t, rfl⟩ := r; rfl
  | str _ => obtain ⟨t, rfl⟩ := r; rfl
  | byt _ => obtain ⟨t, rfl⟩ := r; rfl
  | flt _ => obtain ⟨t, rfl⟩ := r; rfl
  | ref _ => cases r; rfl
  | ty _ => cases r; rfl
theorem RelV.inj {x y : V} {u : Value} (r : RelV x u) (q : RelV y u) : x = y := Option.some.inj (r.abs.symm.trans q.abs)
theorem Vals.inj : ∀ {xs ys : List V} {us : List Value}, Vals xs us → Vals ys us → xs = ys
  | _, _, _, .nil, .nil => rfl
  | _, _, _, .cons r t, .cons r' t' => by rw [r.inj r', Vals.inj t t']
section
variable {X : Cx} {pins : List (Addr × Obj)} {σ : St} {H : Hp} {s : Shared} {a : Addr} {xs ys : List V}
theorem SqL.of {K : PySem.W.Frag} (h : H a = some (.lst xs)) : SqL K H a xs := .inl (.inl h)
theorem SqT.of {K : PySem.W.Frag} (h : H a = some (.tup xs)) : SqT K H a xs := .inl (.inl h)
theorem Inv.list (I : Inv X pins σ H s) (h : SqL X.K H a xs) : ∃ its : List Value, Vals xs its ∧ PlainL s.heap a its.toArray ∧ xs.length ≤ sizeLine := by
  rcases h with h | ⟨o, its, n, hk, hc, hd, hs, hz, r⟩
  · obtain ⟨z, its, n, r, e⟩ := h.ok I.hok
    exact ⟨its, r, ⟨_, n, e, rfl, rfl, rfl⟩, z⟩
  · refine ⟨its.toList, r, ⟨o, n, I.kIn a o hk, hc, hd, by simpa using hs⟩, ?_⟩
    have e := r.length
    simp only [Array.length_toList] at e
    omega
theorem Inv.tuple (I : Inv X pins σ H s) (h : SqT X.K H a xs) : ∃ its : List Value, Vals xs its ∧ IsTup s.heap a its.toArray ∧ xs.length ≤ sizeLine := by
  rcases h with h | ⟨o, its, n, hk, hc, hs, hz, r⟩
  · obtain ⟨z, its, r, p⟩ := h.ok I.hok
    exact ⟨its, r, p, z⟩
  · refine ⟨its.toList, r, ⟨o, I.kIn a o hk, hc, n, by simpa using hs⟩, ?_⟩
    have e := r.length
    simp only [Array.length_toList] at e
    omega
theorem Inv.list_inj (I : Inv X pins σ H s) (h : SqL X.K H a xs) (h' : SqL X.K H a ys) : xs = ys := by
  obtain ⟨its, r, ⟨o, n, e, _, _, d⟩, _⟩ := I.list h
  obtain ⟨its', r', ⟨o', n', e', _, _, d'⟩, _⟩ := I.list h'
  rw [e] at e'; cases e'
  rw [d] at d'
  injection d' with d1 _
  have : its = its' := by simpa using congrArg Array.toList d1
  subst this
  exact r.inj r'
theorem Inv.tuple_inj (I : Inv X pins σ H s) (h : SqT X.K H a xs) (h' : SqT X.K H a ys) : xs = ys := by
  obtain ⟨its, r, ⟨o, e, _, n, d⟩, _⟩ := I.tuple h
  obtain ⟨its', r', ⟨o', e', _, n', d'⟩, _⟩ := I.tuple h'
  rw [e] at e'; cases e'
  rw [d] at d'
  injection d' with d1 _
  have : its = its' := by simpa using congrArg Array.toList d1
  subst this
  exact r.inj r'
end
abbrev Cx.wish (X : Cx) (E : Value → Shared → Prop) : Cx := { X with xe := E }
abbrev Cx.nox (X : Cx) : Cx := X.wish fun _ _ => False
theorem Cx.Ok.wish {X : Cx} (ok : X.Ok) (E : Value → Shared → Prop) : (X.wish E).Ok :=
  ⟨ok.mod, ok.kind, ok.glob, ok.blt, ok.above, ok.inj, ok.has, ok.cab, ok.hd, ok.frames, ok.stk, ok.exf, ok.bs, ok.bsz, ok.noex, ok.exfs, ok.funs, ok.frf⟩
theorem Cx.Ok.unwish {X : Cx} {E : Value → Shared → Prop} (ok : (X.wish E).Ok) : X.Ok :=
  ⟨ok.mod, ok.kind, ok.glob, ok.blt, ok.above, ok.inj, ok.has, ok.cab, ok.hd, ok.frames, ok.stk, ok.exf, ok.bs, ok.bsz, ok.noex, ok.exfs, ok.funs, ok.frf⟩
section
variable {X : Cx} {pins : List (Addr × Obj)} {σ : St} {H : Hp} {s : Shared} {E : Value → Shared → Prop}
theorem Inv.wish (I : Inv X pins σ H s) (E : Value → Shared → Prop) : Inv (X.wish E) pins σ H s := ⟨I.ok.wish E, I.os, I.bare, I.base, I.loc, I.cell, I.free, I.freeC, I.pin, I.hok, I.len⟩
theorem Inv.unwish (I : Inv (X.wish E) pins σ H s) : Inv X pins σ H s := ⟨I.ok.unwish, I.os, I.bare, I.base, I.loc, I.cell, I.free, I.freeC, I.pin, I.hok, I.len⟩
theorem SP.unwish {D : Ends} {f : Flow} {s' : Shared} (h : SP (X.wish E) pins D f s') : SP X pins D f s' := by
  cases f with
  | next => obtain ⟨σ', H', I, q⟩ := h; exact ⟨σ', H', I.unwish, q⟩
  | brk => obtain ⟨σ', H', I, q⟩ := h; exact ⟨σ', H', I.unwish, q⟩
  | cont => obtain ⟨σ', H', I, q⟩ := h; exact ⟨σ', H', I.unwish, q⟩
  | ret u => obtain ⟨v, σ', H', I, r, q⟩ := h; exact ⟨v, σ', H', I.unwish, r, q⟩
theorem PSs.nox {st : List Stmt} {t : TS} (h : PSs X.nox st t) : PSs X st t := fun pins s σ H D I hw =>
  wpAny_mono (h pins s σ H D (I.wish _) hw) (fun _ _ q => q.unwish) fun _ _ z => False.elim z
end
section
variable {X : Cx} {st : Stmt} {rest : List Stmt} {t u : TS} {e : Expr} {te : TE} {pos : Pos}
def tNext : TS := fun D σ H => D.nx σ H
def tSeq (t u : TS) : TS := fun D σ H => t { D with nx := u D } σ H
theorem pss_nil : PSs X [] tNext := fun _ _ σ H _ I h => wpAny_execs_nil ⟨σ, H, I, h⟩
theorem pss_cons (h1 : PS X st t) (h2 : PSs X rest u) : PSs X (st :: rest) (tSeq t u) := by
  intro pins s σ H D I h
  refine wpAny_execs_cons (thn (h1 pins s σ H { D with nx := u D } I h) fun f s1 q => ?_)
  cases f with
  | next =>
    obtain ⟨σ', H', I', q⟩ := q
    exact h2 pins s1 σ' H' D I' q
  | ret v => exact q
  | brk => exact q
  | cont => exact q
theorem pss_one (h1 : PS X st t) : PSs X [st] t := by
  intro pins s σ H D I h
  refine wpAny_execs_cons (thn (h1 pins s σ H D I h) fun f s1 q => ?_)
  cases f with
  | next => exact wpAny_execs_nil q
  | ret v => exact q
  | brk => exact q
  | cont => exact q
theorem Inv.quiet {pins : List (Addr × Obj)} {σ : St} {H : Hp} {s : Shared} (I : Inv X pins σ H s) : interactive X.env = false := by simp [interactive, I.ok.kind]
def tDrop (te : TE) : TS := fun D σ H => te σ H fun _ H1 => D.nx σ H1
theorem ps_expr (he : PE X e te) (hs : swapsWith e none pos.line X.env = pure false := by rfl) : PS X (.Expr e pos) (tDrop te) := by
  intro pins s σ H D I h
  exact wpAny_Expr_any (thn (he pins s σ H _ I h) fun v s1 ⟨x, H1, I1, r1, q1⟩ => ⟨σ, H1, I1, q1⟩) I.quiet hs
def tRet (te : TE) : TS := fun D σ H => te σ H D.rt
theorem ps_ret (he : PE X e te) : PS X (.Return (some e) pos) (tRet te) := by
  intro pins s σ H D I h
  exact wpAny_Return_some (thn (he pins s σ H _ I h) fun v s1 ⟨x, H1, I1, r1, q1⟩ => ⟨x, σ, H1, I1, r1, q1⟩)
def tIfS (c : TT) (t u : TS) : TS := fun D σ H => c σ H fun b H1 => if b = true then t D σ H1 else u D σ H1
theorem ps_if {c : Expr} {a b : List Stmt} {tc : TT} (hc : PT X c tc) (ha : PSs X a t) (hb : PSs X b u) : PS X (.If c a b pos) (tIfS tc t u) := by
  intro pins s σ H D I h
  refine wpAny_If (thn (hc pins s σ H _ I h) fun d s1 ⟨H1, I1, q1⟩ => ?_)
  cases d with
  | true => exact ha pins s1 σ H1 D I1 q1
  | false => exact hb pins s1 σ H1 D I1 q1
end
abbrev TG := V → St → Hp → (St → Hp → Prop) → Prop
abbrev TGs := List V → St → Hp → (St → Hp → Prop) → Prop
def PG (X : Cx) (target : Expr) (t : TG) : Prop :=
  ∀ (pins : List (Addr × Obj)) (s : Shared) (σ : St) (H : Hp) (v : V) (u : Value) (Q : St → Hp → Prop), Inv X pins σ H s → RelV v u → t v σ H Q →
    wpAny (model X.prog X.w) X.A (assign target X.env u) (fun _ s' => ∃ σ' H', Inv X pins σ' H' s' ∧ Q σ' H') X.xe s
def PGs (X : Cx) (ts : List Expr) (t : TGs) : Prop :=
  ∀ (pins : List (Addr × Obj)) (s : Shared) (σ : St) (H : Hp) (vs : List V) (us : List Value) (Q : St → Hp → Prop), Inv X pins σ H s → Vals vs us → t vs σ H Q →
    wpAny (model X.prog X.w) X.A (assignInOrder ((assignEach ts X.env).map (·.2)) us) (fun _ s' => ∃ σ' H', Inv X pins σ' H' s' ∧ Q σ' H') X.xe s
abbrev TSet := V → V → V → Hp → (Hp → Prop) → Prop
def PSet (X : Cx) (t : TSet) : Prop :=
  ∀ (pins : List (Addr × Obj)) (s : Shared) (σ : St) (H : Hp) (o i v : V) (ov iv u : Value) (Q : Hp → Prop), Inv X pins σ H s → RelV o ov → RelV i iv → RelV v u → t o i v H Q →
    wpAny (model X.prog X.w) X.A (setItem ov iv u) (fun _ s' => ∃ H', Inv X pins σ H' s' ∧ Q H') X.xe s
abbrev TIp := V → V → Hp → VK → Prop
def PIp (X : Cx) (op : Operator) (t : TIp) : Prop :=
  ∀ (pins : List (Addr × Obj)) (s : Shared) (σ : St) (H : Hp) (x y : V) (v u : Value) (Q : VK), Inv X pins σ H s → RelV x v → RelV y u → t x y H Q →
    wpAny (model X.prog X.w) X.A (inplaceOp op v u) (EP X pins σ Q) X.xe s
section
variable {X : Cx} {pos : Pos}
def gName (i : Nat) : TG := fun v σ H Q => Q (σ.set i (some v)) H
theorem pg_name {i : Nat} {x : Str} (hN : X.N.Nodup) (hi : X.N[i]? = some x) (hx : Loc X.env.scope x) (hf : X.fn x = true ∨ X.env.scope.names.lookup x = some .local := by first | exact .inl rfl | exact .inr rfl | assumption) : PG X (.Name x pos) (gName i) := by
  intro pins s σ H v u Q I r h
  exact wpAny_assign_Name (store_ok I hN hi hx r (fun s' I' => ⟨_, H, I', h⟩) hf)
def gNil : TGs := fun vs σ H Q => vs = [] ∧ Q σ H
def gCons (t : TG) (u : TGs) : TGs := fun vs σ H Q => ∃ v r, vs = v :: r ∧ t v σ H fun σ' H' => u r σ' H' Q
theorem pgs_nil : PGs X [] gNil := by
  intro pins s σ H vs us Q I r h
  obtain ⟨e, h⟩ := h
  subst e
  cases r
  exact assignInOrder_nil ⟨σ, H, I, h⟩
theorem pgs_cons {e : Expr} {es : List Expr} {t : TG} {u : TGs} (h1 : PG X e t) (h2 : PGs X es u)
    (hs : (assignEach (e :: es) X.env).map (·.2) = assign e X.env :: (assignEach es X.env).map (·.2) := by rfl) : PGs X (e :: es) (gCons t u) := by
  intro pins s σ H vs us Q I r h
  obtain ⟨v, vr, e1, h⟩ := h
  subst e1
  cases r with
  | cons r rr =>
    rw [hs]
    refine assignInOrder_cons (thn (h1 pins s σ H _ _ _ I r h) fun _ s1 ⟨σ1, H1, I1, q1⟩ => ?_)
    exact h2 pins s1 σ1 H1 _ _ Q I1 rr q1
def gTup (K : PySem.W.Frag) (n : Nat) (t : TGs) : TG := fun v σ H Q => ∃ a xs, v = .ref a ∧ SqT K H a xs ∧ xs.length = n ∧ t xs σ H Q
theorem pg_tup {es : List Expr} {k : Nat} {t : TGs} {n : Nat} (hc : X.calm = true) (h : PGs X es t)
    (hn : (assignEach es X.env).length = n := by rfl) (hst : (assignEach es X.env).findIdx? (·.1) = none := by rfl) : PG X (.Tuple es k pos) (gTup X.K n t) := by
  intro pins s σ H v u Q I r hw
  obtain ⟨a, xs, e1, hq, hl, hw⟩ := hw
  subst e1
  cases r
  obtain ⟨its, rv, ht, hz⟩ := I.tuple hq
  refine assign_Tuple_tuple (I.ok.hd hc) ht (by simp [hn, ← hl, rv.length]) hst fun h' hx => ?_
  have I1 : Inv X pins σ H { s with heap := h' } := I.kept (t' := s.toks) fun b o e => hx b o (Nat.ne_of_lt (Heap.lt_size e)) e
  exact h pins _ σ H xs _ Q I1 (by simpa using rv) hw
def gSub (to ti : TE) (t : TSet) : TG := fun v σ H Q => to σ H fun o H1 => ti σ H1 fun i H2 => t o i v H2 fun H3 => Q σ H3
theorem pg_sub {o i : Expr} {to ti : TE} {t : TSet} (ho : PE X o to) (hi : PE X i ti) (hs : PSet X t)
    (ha : ∀ v, assign (.Subscript o i pos) X.env v = (do
      let ov ← holding [v] (eval o X.env)
      let iv ← holding [v, ov] (eval i X.env)
      standAt pos
      holding [v, ov, iv] (setItem ov iv v)
      release [v, ov, iv] []) := by intro _; rfl) : PG X (.Subscript o i pos) (gSub to ti t) := by
  intro pins s σ H v u Q I r h
  rw [ha]
  refine wpAny_bind (wpAny_holding (thn (ho pins s σ H _ I h) fun ov s1 ⟨x, H1, I1, r1, q1⟩ => ?_))
  refine wpAny_bind (wpAny_holding (thn (hi pins s1 σ H1 _ I1 q1) fun iv s2 ⟨y, H2, I2, r2, q2⟩ => ?_))
  refine wpAny_bind (wpAny_standAt (wpAny_bind (wpAny_holding (thn (hs pins s2 σ H2 x y v ov iv u _ I2 r1 r2 r q2) fun _ s3 ⟨H3, I3, q3⟩ => ?_))))
  exact wpAny_release ⟨σ, H3, I3, q3⟩
def tAsg (te : TE) (g : TG) : TS := fun D σ H => te σ H fun x H1 => g x σ H1 D.nx
theorem ps_asg {tg e : Expr} {te : TE} {g : TG} (he : PE X e te) (hg : PG X tg g) (hs : swapsWithSole [tg] e pos.line X.env = pure false := by rfl) (hw : swappedStores [tg] e X.env = pure none := by rfl)
    (h1 : (assignEach [tg] X.env).map (·.2) = [assign tg X.env] := by rfl) : PS X (.Assign [tg] e pos) (tAsg te g) := by
  intro pins s σ H D I h
  refine wpAny_Assign_stores (thn (he pins s σ H _ I h) fun v s1 ⟨x, H1, I1, r1, q1⟩ => ?_) hs hw
  rw [h1]
  exact thn (hg pins s1 σ H1 x v _ I1 r1 q1) fun _ s2 q => q
theorem ps_set {i : Nat} {x : Str} {e : Expr} {te : TE} {pos' : Pos} (hN : X.N.Nodup) (hi : X.N[i]? = some x) (hx : Loc X.env.scope x) (he : PE X e te) (hs : swapsWith e (some (.Name x pos')) pos.line X.env = pure false := by rfl) (hf : X.fn x = true ∨ X.env.scope.names.lookup x = some .local := by first | exact .inl rfl | exact .inr rfl | assumption) :
    PS X (.Assign [.Name x pos'] e pos) (tAsg te (gName i)) := by
  intro pins s σ H D I h
  refine wpAny_Assign_Name (thn (he pins s σ H _ I h) fun v s1 ⟨y, H1, I1, r1, q1⟩ => ?_) hs
  exact store_ok I1 hN hi hx r1 (fun s2 I2 => ⟨_, H1, I2, q1⟩) hf
def tAug (i : Nat) (te : TE) (ti : TIp) : TS := fun D σ H => ∃ x, σ[i]? = some (some x) ∧ te σ H fun y H1 => ti x y H1 fun z H2 => D.nx (σ.set i (some z)) H2
theorem ps_aug {i : Nat} {x : Str} {e : Expr} {te : TE} {op : Operator} {ti : TIp} {pos' : Pos} (hN : X.N.Nodup) (hi : X.N[i]? = some x) (hx : Loc X.env.scope x) (he : PE X e te) (ho : PIp X op ti) (hf : X.fn x = true ∨ X.env.scope.names.lookup x = some .local := by first | exact .inl rfl | exact .inr rfl | assumption) :
    PS X (.AugAssign (.Name x pos') op e pos) (tAug i te ti) := by
  intro pins s σ H D I h
  obtain ⟨v, e1, h⟩ := h
  obtain ⟨m, hn, hl⟩ := I.loc
  have vis : Vis X.env.scope x := by rcases hx with k | k; exact .inl k; exact .inr (.inl k)
  obtain ⟨u, r, l⟩ := hl i x v hi e1 vis
  refine wpAny_AugAssign_Name ?_
  have go : wpAny (model X.prog X.w) X.A (eval e X.env) (fun w s₂ => wpAny (model X.prog X.w) X.A (inplaceOp op u w) (fun r s₃ => wpAny (model X.prog X.w) X.A (storeName X.env x r) (fun _ => SP X pins D .next) X.xe s₃) X.xe s₂) X.xe s := by
    refine thn (he pins s σ H _ I h) fun w s1 ⟨y, H1, I1, r1, q1⟩ => ?_
    refine thn (ho pins s1 σ H1 v y u w _ I1 r r1 q1) fun z s2 ⟨zv, H2, I2, r2, q2⟩ => ?_
    exact store_ok I2 hN hi hx r2 (fun s3 I3 => ⟨_, H2, I3, q2⟩) hf
  rcases l with ⟨hk, hm⟩ | ⟨hk, c, hc, hcell⟩
  · exact wpAny_loadName_local I.ok.kind hk hn hm go
  · rcases hk with hk | hk
    · exact wpAny_loadName_cell I.ok.kind hk hc hcell go
    · rcases hx with k | k
      · have : X.env.scope.names.lookup x = some .free := hk
        rw [k] at this; cases this
      · have : X.env.scope.names.lookup x = some .free := hk
        rw [k] at this; cases this
def ipI (f : Int → Int → Int) : TIp := fun x y H Q => ∃ i j, x = .int i ∧ y = .int j ∧ Q (.int (f i j)) H
theorem ip_add : PIp X .Add (ipI fun i j => i + j) := by
  intro pins s σ H x y v u Q I r1 r2 h
  obtain ⟨i, j, e1, e2, q⟩ := h
  subst e1; subst e2
  obtain ⟨t, rfl⟩ := r1
  obtain ⟨t', rfl⟩ := r2
  exact iadd_int ⟨.int _, H, I.tok _, ⟨_, rfl⟩, q⟩
end
section
variable {X : Cx} {pos : Pos}
def tWhile (c : TT) (tb : TS) : TS := fun D σ H => ∃ W : Nat → St → Hp → Prop, (∃ m, W m σ H) ∧ ∀ m σ H, W m σ H →
  c σ H fun b H1 => if b = true then ∃ N : St → Hp → Prop, (∀ σ' H', N σ' H' → ∃ m', m' < m ∧ W m' σ' H') ∧ tb { D with nx := N, ct := N, bk := D.nx } σ H1 else D.nx σ H1
theorem ps_while {c : Expr} {body : List Stmt} {tc : TT} {tb : TS} (hp : PassesOwn (model X.prog X.w) X.A X.env X.xe) (hc : PT X c tc) (hb : PSs X body tb) : PS X (.While c body [] pos) (tWhile tc tb) := by
  intro pins s σ H D I h
  obtain ⟨W, ⟨m0, w0⟩, turn⟩ := h
  refine wpAny_While (codeAny_whileLoop (fun n s' => ∃ σ' H', Inv X pins σ' H' s' ∧ W n σ' H') ?_ m0 ⟨σ, H, I, w0⟩)
  rintro n s1 ⟨σ1, H1, I1, w1⟩
  refine wpAny_passesOwn hp (thn (hc pins s1 σ1 H1 _ I1 (turn n σ1 H1 w1)) fun b s2 ⟨H2, I2, q2⟩ => ?_)
  cases b with
  | true =>
    obtain ⟨N, hN, q2⟩ := q2
    rw [if_pos rfl]
    refine wpAny_passesOwn hp (thn (hb pins s2 σ1 H2 _ I2 q2) fun f s3 q3 => ?_)
    cases f with
    | next =>
      obtain ⟨σ3, H3, I3, n3⟩ := q3
      obtain ⟨m', hm, w3⟩ := hN σ3 H3 n3
      exact ⟨m', hm, σ3, H3, I3, w3⟩
    | cont =>
      obtain ⟨σ3, H3, I3, n3⟩ := q3
      obtain ⟨m', hm, w3⟩ := hN σ3 H3 n3
      exact ⟨m', hm, σ3, H3, I3, w3⟩
    | brk => exact q3
    | ret v => exact q3
  | false =>
    rw [if_neg Bool.false_ne_true]
    exact wpAny_execs_nil ⟨σ1, H2, I2, q2⟩
end
structure It where
  go : Nat → Hp → Prop
  yld : Nat → Hp → V → Hp → Prop
  stop : Nat → Hp → Prop
def FpOk (X : Cx) (pins : List (Addr × Obj)) (H : Hp) (b : Addr) : Prop :=
  H b = none ∧ b ≠ X.env.locals ∧ b ∉ X.fs ∧ (b ∈ X.ex ∨ X.s₀.heap.objs.size ≤ b) ∧ (∀ x c, X.env.cells.lookup x = some c → c ≠ b) ∧ ∀ p ∈ X.pn ++ pins, p.1 ≠ b
theorem Inv.fpOk {X : Cx} {pins : List (Addr × Obj)} {σ : St} {H H' : Hp} {s : Shared} {b : Addr} (I : Inv X pins σ H s) (hb : s.heap.objs.size ≤ b) (hn : H' b = none) : FpOk X pins H' b := by
  refine ⟨hn, Nat.ne_of_gt (Nat.lt_of_lt_of_le I.lt hb), I.nofs hb, .inr (Nat.le_trans I.sz hb), fun x c e z => ?_, fun p hp z => ?_⟩
  · obtain ⟨v, q⟩ := I.cell x c e
    exact absurd (Nat.lt_of_lt_of_le q.lt (by rw [z]; exact hb)) (Nat.lt_irrefl _)
  · exact absurd (Nat.lt_of_lt_of_le (Heap.lt_size (I.pin p hp).1) (by rw [z]; exact hb)) (Nat.lt_irrefl _)
structure Turn (P : Program) (w : World) (K : PySem.W.Frag) (tg : Expr) (J : It) (fp : List Addr) (it : Addr) (tn : Nat → Heap → Prop) : Prop where
  mem : it ∈ fp
  obj : ∀ i h, tn i h → ∀ b ∈ fp, ∃ o, h.get? b = some o ∧ ∀ v, o.data ≠ .cell v
  keep : ∀ i h h', tn i h → (∀ b ∈ fp, ∀ o, h.get? b = some o → h'.get? b = some o) → tn i h'
  item : ∀ (X : Cx), X.prog = P → X.w = w → X.K = K → X.calm = true → ∀ (i : Nat) (pins : List (Addr × Obj)) (s : Shared) (σ : St) (H : Hp) (E : Value → Shared → Prop), Inv X pins σ H s → (∀ b ∈ fp, FpOk X pins H b) → tn i s.heap → J.go i H →
    wpAny (model P w) X.A (pyNext (.ref it)) (fun r s1 => ∃ u, r = some u ∧
      wpAny (model P w) X.A (letOwnedTupleGo tg (.ref it) u) (fun _ s2 => ∃ x H', Inv X pins σ H' s2 ∧ RelV x u ∧ J.yld i H x H' ∧ tn (i + 1) s2.heap ∧ ∀ b ∈ fp, H' b = none) E s1) E s
  done : ∀ (X : Cx), X.prog = P → X.w = w → X.K = K → X.calm = true → ∀ (i : Nat) (pins : List (Addr × Obj)) (s : Shared) (σ : St) (H : Hp) (E : Value → Shared → Prop), Inv X pins σ H s → (∀ b ∈ fp, FpOk X pins H b) → tn i s.heap → J.stop i H →
    wpAny (model P w) X.A (pyNext (.ref it)) (fun r s1 => r = none ∧ Inv X pins σ H s1) E s
  self : ∀ (A : Around) (i : Nat) (s : Shared) (Q : Value → Shared → Prop) (E : Value → Shared → Prop), tn i s.heap → Q (.ref it) s → wpAny (model P w) A (pyIter (.ref it)) Q E s
abbrev TI := St → Hp → (It → Hp → Prop) → Prop
def PIE (X : Cx) (pins : List (Addr × Obj)) (σ : St) (tg : Expr) (R : It → Hp → Prop) (itv : Value) (s2 : Shared) : Prop :=
  ∃ (it : Addr) (fp : List Addr) (tn : Nat → Heap → Prop) (J : It) (H' : Hp), itv = .ref it ∧ Inv X pins σ H' s2 ∧ Turn X.prog X.w X.K tg J fp it tn ∧ tn 0 s2.heap ∧ (∀ b ∈ fp, FpOk X pins H' b) ∧ R J H'
def PI (X : Cx) (tg iter : Expr) (wi : TI) : Prop :=
  ∀ (pins : List (Addr × Obj)) (s : Shared) (σ : St) (H : Hp) (R : It → Hp → Prop), Inv X pins σ H s → wi σ H R →
    wpAny (model X.prog X.w) X.A (eval iter X.env) (fun v s1 => wpAny (model X.prog X.w) X.A (pyIter v) (PIE X pins σ tg R) X.xe s1) X.xe s
theorem go_of {M : Model} {A : Around} {E : Value → Shared → Prop} {s : Shared} {tg : Expr} {it : Addr} {u : Value} {o : Obj} {n : String} {vs : Array Value} {Q : Unit → Shared → Prop} (ho : s.heap.get? it = some o) (hc : o.cls = .type n) (hd : o.data = .fields vs)
    (hn : ["enumerate", "zip", "dict_itemiterator", "dict_reverseitemiterator", "odict_iterator", "itertools.zip_longest", "itertools.pairwise"].contains n = false) (hQ : Q () s) : wpAny M A (letOwnedTupleGo tg (.ref it) u) Q E s := by
  unfold letOwnedTupleGo
  cases tg <;> first
    | exact wpAny_pure hQ
    | (cases u <;> first
        | exact wpAny_pure hQ
        | (refine wpAny_bind (wpAny_load ho ?_)
           rw [hc, hd]
           show wpAny M A (if (["enumerate", "zip", "dict_itemiterator", "dict_reverseitemiterator", "odict_iterator", "itertools.zip_longest", "itertools.pairwise"].contains n && vs[0]? == some (rawInt _)) = true then _ else _) Q E s
           rw [if_neg (by intro h; rw [hn, Bool.false_and] at h; cases h)]
           exact wpAny_pure hQ))
def Itl (K : PySem.W.Frag) (a : Addr) : It :=
  ⟨fun i H => ∃ xs x, SqL K H a xs ∧ xs[i]? = some x, fun i H x H' => H' = H ∧ ∀ xs, SqL K H a xs → xs[i]? = some x, fun i H => ∃ xs, SqL K H a xs ∧ xs.length ≤ i⟩
def Itt (K : PySem.W.Frag) (a : Addr) : It :=
  ⟨fun i H => ∃ xs x, SqT K H a xs ∧ xs[i]? = some x, fun i H x H' => H' = H ∧ ∀ xs, SqT K H a xs → xs[i]? = some x, fun i H => ∃ xs, SqT K H a xs ∧ xs.length ≤ i⟩
def Itr (lo : Int) (n : Nat) : It := ⟨fun i _ => i < n, fun i H x H' => H' = H ∧ x = .int (lo + i), fun i _ => n ≤ i⟩
theorem turn_list {P : Program} {w : World} {K : PySem.W.Frag} {tg : Expr} (a it : Addr) : Turn P w K tg (Itl K a) [it] it (fun i h => h.IsListIter it a i) where
  mem := by simp
  obj := fun i h st b hb => by
    have e : b = it := by simpa using hb
    subst e
    obtain ⟨o, e, c, d⟩ := st
    exact ⟨o, e, fun v z => by rw [d] at z; cases z⟩
  keep := fun i h h' st k => st.at fun o e => k it (by simp) o e
  item := by
    intro X hP hw hK hc i pins s σ H E I hf st hg
    subst hP hw hK
    obtain ⟨xs, x, hq, hx⟩ := hg
    obtain ⟨its, rv, p, hz⟩ := I.list hq
    obtain ⟨u, hu, ru⟩ := rv.get hx
    obtain ⟨f0, f1, f2, f3, f4, f5⟩ := hf it (by simp)
    refine wpAny_pyNext_list_item st p.isList (x := u) (by simpa using hu) fun h' st' sb => ?_
    have I1 : Inv X pins σ H { s with heap := h' } := I.turned (t' := s.toks) (fun b o hb e => (sb.2 b hb).trans e) f0 f1 f3 f4 f5
    obtain ⟨o, e, c, d⟩ := id st'
    exact ⟨u, rfl, go_of (s := { s with heap := h' }) e c d (by decide) ⟨x, H, I1, ru, ⟨rfl, fun ys hy => by rw [I.list_inj hy hq]; exact hx⟩, st', fun b hb => (hf b hb).1⟩⟩
  done := by
    intro X hP hw hK hc i pins s σ H E I hf st hg
    subst hP hw hK
    obtain ⟨xs, hq, hx⟩ := hg
    obtain ⟨its, rv, p, hz⟩ := I.list hq
    obtain ⟨f0, f1, f2, f3, f4, f5⟩ := hf it (by simp)
    have hl := rv.length
    exact wpAny_pyNext_list_end (I.ok.hd hc) st p.isList (by simp; omega) fun h' eb => ⟨rfl, I.turned (t' := s.toks) (fun b o hb e => eb b o hb e) f0 f1 f3 f4 f5⟩
  self := fun _ _ _ _ _ st h => wpAny_pyIter_listiter st h
theorem turn_tuple {P : Program} {w : World} {K : PySem.W.Frag} {tg : Expr} (a it : Addr) : Turn P w K tg (Itt K a) [it] it (fun i h => h.IsTupleIter it a i) where
  mem := by simp
  obj := fun i h st b hb => by
    have e : b = it := by simpa using hb
    subst e
    obtain ⟨o, e, c, d⟩ := st
    exact ⟨o, e, fun v z => by rw [d] at z; cases z⟩
  keep := fun i h h' st k => st.at fun o e => k it (by simp) o e
  item := by
    intro X hP hw hK hc i pins s σ H E I hf st hg
    subst hP hw hK
    obtain ⟨xs, x, hq, hx⟩ := hg
    obtain ⟨its, rv, p, hz⟩ := I.tuple hq
    obtain ⟨u, hu, ru⟩ := rv.get hx
    obtain ⟨f0, f1, f2, f3, f4, f5⟩ := hf it (by simp)
    refine wpAny_pyNext_tuple_item st (show s.heap.IsTuple a its.toArray from p) (x := u) (by simpa using hu) fun h' st' sb => ?_
    have I1 : Inv X pins σ H { s with heap := h' } := I.turned (t' := s.toks) (fun b o hb e => (sb.2 b hb).trans e) f0 f1 f3 f4 f5
    obtain ⟨o, e, c, d⟩ := id st'
    exact ⟨u, rfl, go_of (s := { s with heap := h' }) e c d (by decide) ⟨x, H, I1, ru, ⟨rfl, fun ys hy => by rw [I.tuple_inj hy hq]; exact hx⟩, st', fun b hb => (hf b hb).1⟩⟩
  done := by
    intro X hP hw hK hc i pins s σ H E I hf st hg
    subst hP hw hK
    obtain ⟨xs, hq, hx⟩ := hg
    obtain ⟨its, rv, p, hz⟩ := I.tuple hq
    obtain ⟨f0, f1, f2, f3, f4, f5⟩ := hf it (by simp)
    have hl := rv.length
    exact wpAny_pyNext_tuple_end (I.ok.hd hc) st (show s.heap.IsTuple a its.toArray from p) (by simp; omega) fun h' eb => ⟨rfl, I.turned (t' := s.toks) (fun b o hb e => eb b o hb e) f0 f1 f3 f4 f5⟩
  self := fun _ _ _ _ _ st h => wpAny_pyIter_tupleiter st h
theorem turn_range {P : Program} {w : World} {K : PySem.W.Frag} {tg : Expr} (it : Addr) (lo : Int) (n : Nat) : Turn P w K tg (Itr lo n) [it] it (fun i h => IsRangeIter h it (lo + (i : Nat) * 1) ((n : Int) - (i : Nat)) 1) where
  mem := by simp
  obj := fun i h st b hb => by
    have e : b = it := by simpa using hb
    subst e
    exact ⟨_, st, fun v z => by
      have z' : Data.fields _ = Data.cell v := z
      cases z'⟩
  keep := fun i h h' st k => k it (by simp) _ st
  item := by
    intro X hP hw hK hc i pins s σ H E I hf st hg
    subst hP hw hK
    obtain ⟨f0, f1, f2, f3, f4, f5⟩ := hf it (by simp)
    have W := Walks.range (prog := X.prog) (w := X.w) (I.ok.hd hc) it lo 1 n
    refine W.item i s _ _ hg st fun v h' tk hv st' kk => ?_
    obtain ⟨t, rfl⟩ := hv
    have I1 : Inv X pins σ H { s with heap := h', toks := tk } := I.turned (fun b o hb e => kk b o (by simpa using hb) e) f0 f1 f3 f4 f5
    refine ⟨_, rfl, go_of (s := { s with heap := h', toks := tk }) (n := "range_iterator") st' rfl rfl (by decide) ⟨.int (lo + i), H, I1, ⟨t, ?_⟩, ⟨rfl, rfl⟩, st', fun b hb => (hf b hb).1⟩⟩
    rw [Int.mul_one]
  done := by
    intro X hP hw hK hc i pins s σ H E I hf st hg
    subst hP hw hK
    obtain ⟨f0, f1, f2, f3, f4, f5⟩ := hf it (by simp)
    exact wpAny_pyNext_range_end (I.ok.hd hc) st (by have : n ≤ i := hg; omega) fun h' eb => ⟨rfl, I.turned (t' := s.toks) (fun b o hb e => eb b o hb e) f0 f1 f3 f4 f5⟩
  self := fun _ _ _ _ _ st h => wpAny_pyIter_rangeiter st h
end L2
namespace L2
open PySem PySem.Spec PyProof.Rows
section
variable {X : Cx} {tg : Expr}
theorem range_it {pins : List (Addr × Obj)} {σ : St} {H : Hp} {s : Shared} {R : It → Hp → Prop} {E : Value → Shared → Prop} {lo hi : Int} {t u v : Tok} {tk : Nat} (I : Inv X pins σ H s) (h1 : -(2 ^ 62) ≤ lo) (h2 : lo < 2 ^ 62) (h3 : -(2 ^ 62) ≤ hi) (h4 : hi < 2 ^ 62)
    (q : R (Itr lo (hi - lo).toNat) H) : wpAny (model X.prog X.w) X.A (pyIter (.ref s.heap.objs.size)) (PIE X pins σ tg R) E { s with heap := s.heap.push { cls := .type "range", data := .fields #[.int lo t, .int hi u, .int 1 v] }, toks := tk } := by
  refine wpAny_pyIter_range (IsRange.new ..) (small_one h1 h2 h3 h4) ?_
  have I1 : Inv X pins σ H { s with heap := s.heap.push { cls := .type "range", data := .fields #[.int lo t, .int hi u, .int 1 v] }, toks := tk } := I.kept fun b o e => Heap.get?_push_of_some _ e
  refine ⟨(s.heap.push { cls := .type "range", data := .fields #[.int lo t, .int hi u, .int 1 v] }).objs.size, [(s.heap.push { cls := .type "range", data := .fields #[.int lo t, .int hi u, .int 1 v] }).objs.size], _, _, H, rfl,
    I1.kept (t' := tk) fun b o e => Heap.get?_push_of_some _ e, turn_range _ lo (hi - lo).toNat, ?_, fun b hb => ?_, q⟩
  · have e1 : lo + ((0 : Nat) : Int) * 1 = lo := by simp
    have e2 : (((hi - lo).toNat : Nat) : Int) - ((0 : Nat) : Int) = Builtin.Range.rangeSize lo hi 1 := by rw [rangeSize_one]; split <;> omega
    show IsRangeIter _ _ (lo + ((0 : Nat) : Int) * 1) ((((hi - lo).toNat : Nat) : Int) - ((0 : Nat) : Int)) 1
    rw [e1, e2]
    exact Heap.get?_push_size _ rfl
  · have e : b = (s.heap.push { cls := .type "range", data := .fields #[.int lo t, .int hi u, .int 1 v] }).objs.size := by simpa using hb
    subst e
    exact I1.fpOk (Nat.le_refl _) (I1.hok.fresh (Nat.le_refl _))
def iRng1 (ta : TA) : TI := fun σ H R => ta σ H fun vs H1 => ∃ j : Int, vs = [.int j] ∧ -(2 ^ 62) ≤ j ∧ j < 2 ^ 62 ∧ R (Itr 0 j.toNat) H1
def iRng2 (ta : TA) : TI := fun σ H R => ta σ H fun vs H1 => ∃ i j : Int, vs = [.int i, .int j] ∧ (-(2 ^ 62) ≤ i ∧ i < 2 ^ 62 ∧ -(2 ^ 62) ≤ j ∧ j < 2 ^ 62) ∧ R (Itr i (j - i).toNat) H1
theorem pi_range1 {a : Expr} {ta : TA} {p pos : Pos} (hg : Gl X "range") (hm : X.mg "range" = none) (ha : PA X [a] ta) (hs : starEach [a] X.env = [(false, eval a X.env)] := by rfl) : PI X tg (.Call (.Name "range" p) [a] [] pos) (iRng1 ta) := by
  intro pins s σ H R I h
  refine Call_ (ld_blt I hg hm boot_range (PyProof.Rows.callWith_type1 (thn (ha pos pins s σ H _ I h) fun us s1 ⟨vs, H1, I1, r1, q1⟩ => ?_) hs rfl))
  obtain ⟨j, e, q1, q2, q⟩ := q1
  subst e
  cases r1 with
  | cons r rr =>
    cases rr
    obtain ⟨t, rfl⟩ := r
    exact call_range_1 (range_it I1 (by omega) (by omega) q1 q2 (by simpa using q))
theorem pi_range2 {a b : Expr} {ta : TA} {p pos : Pos} (hg : Gl X "range") (hm : X.mg "range" = none) (ha : PA X [a, b] ta) (hs : starEach [a, b] X.env = [(false, eval a X.env), (false, eval b X.env)] := by rfl) (hs2 : starEach [b] X.env = [(false, eval b X.env)] := by rfl) :
    PI X tg (.Call (.Name "range" p) [a, b] [] pos) (iRng2 ta) := by
  intro pins s σ H R I h
  refine Call_ (ld_blt I hg hm boot_range (PyProof.Rows.callWith_type1 (thn (ha pos pins s σ H _ I h) fun us s1 ⟨vs, H1, I1, r1, q1⟩ => ?_) (by rw [hs, hs2]) (by rw [hs2]; rfl)))
  obtain ⟨i, j, e, ⟨q1, q2, q3, q4⟩, q⟩ := q1
  subst e
  cases r1 with
  | cons r rr =>
    cases rr with
    | cons r' rr =>
      cases rr
      obtain ⟨t, rfl⟩ := r
      obtain ⟨t', rfl⟩ := r'
      exact call_range_2 (range_it I1 q1 q2 q3 q4 q)
def tFor (wi : TI) (g : TG) (tb : TS) : TS := fun D σ H => wi σ H fun J H1 => ∃ W : Nat → Nat → St → Hp → Prop, (∃ m, W 0 m σ H1) ∧ ∀ i m σ H, W i m σ H →
  (J.stop i H ∧ D.nx σ H) ∨ (J.go i H ∧ ∃ N : St → Hp → Prop, (∀ σ' H', N σ' H' → ∃ m', m' < m ∧ W (i + 1) m' σ' H') ∧ ∀ x H', J.yld i H x H' → g x σ H' fun σ2 H2 => tb { D with nx := N, ct := N, bk := D.nx } σ2 H2)
def pinsAt (fp : List Addr) (h : Heap) : List (Addr × Obj) := fp.filterMap fun b => (h.get? b).map fun o => (b, o)
theorem mem_pinsAt {fp : List Addr} {h : Heap} {b : Addr} {o : Obj} (hb : b ∈ fp) (e : h.get? b = some o) : (b, o) ∈ pinsAt fp h := List.mem_filterMap.mpr ⟨b, hb, by rw [e]; rfl⟩
theorem of_pinsAt {fp : List Addr} {h : Heap} {p : Addr × Obj} (hp : p ∈ pinsAt fp h) : p.1 ∈ fp ∧ h.get? p.1 = some p.2 := by
  obtain ⟨b, hb, e⟩ := List.mem_filterMap.mp hp
  cases q : h.get? b with
  | none => rw [q] at e; cases e
  | some o =>
    rw [q] at e
    have e' : (b, o) = p := Option.some.inj e
    subst e'
    exact ⟨hb, q⟩
theorem Inv.pinned {pins : List (Addr × Obj)} {σ : St} {H : Hp} {s : Shared} {fp : List Addr} (I : Inv X pins σ H s) (hf : ∀ b ∈ fp, FpOk X pins H b) (ho : ∀ b ∈ fp, ∃ o, s.heap.get? b = some o ∧ ∀ v, o.data ≠ .cell v) : Inv X (pins ++ pinsAt fp s.heap) σ H s :=
  I.pins_of fun p hp => (List.mem_append.mp hp).elim (fun z => I.pin p (List.mem_append_right _ z)) fun z => by
    obtain ⟨hb, e⟩ := of_pinsAt z
    obtain ⟨f0, f1, f2, _⟩ := hf p.1 hb
    obtain ⟨o, e', d⟩ := ho p.1 hb
    rw [e] at e'; cases e'
    exact ⟨e, f0, f1, f2, d⟩
theorem Inv.unpinned {pins pl : List (Addr × Obj)} {σ : St} {H : Hp} {s : Shared} (I : Inv X (pins ++ pl) σ H s) : Inv X pins σ H s := I.pins_of fun p hp => I.pin p (List.mem_append_right _ (List.mem_append_left _ hp))
theorem ps_for {iter : Expr} {body : List Stmt} {wi : TI} {g : TG} {tb : TS} {pos : Pos} (hp : PassesOwn (model X.prog X.w) X.A X.env X.xe) (hc : X.calm = true) (hi : PI X tg iter wi) (hg : PG X tg g) (hb : PSs X body tb)
    (hs : ∀ x, foldedSetIterable iter X.env x = pure x := by intro _; rfl) : PS X (.For tg iter body [] pos) (tFor wi g tb) := by
  intro pins s σ H D I h
  refine wpAny_For (thn (hi pins s σ H _ I h) fun v s1 h1 => thn h1 fun itv s2 h2 => ?_) hs
  obtain ⟨it, fp, tn, J, H2, e, I2, T, st2, f2, W, ⟨m0, w0⟩, turn⟩ := h2
  subst e
  -- what stays true of the iterator's objects through the loop
  have stat : ∀ {H' : Hp}, (∀ b ∈ fp, H' b = none) → ∀ b ∈ fp, FpOk X pins H' b := fun hn b hb => ⟨hn b hb, (f2 b hb).2⟩
  refine codeAny_forLoop_any (fun n s' => ∃ i σ' H', Inv X pins σ' H' s' ∧ tn i s'.heap ∧ (∀ b ∈ fp, H' b = none) ∧ W i n σ' H') ?_ m0 ⟨0, σ, H2, I2, st2, fun b hb => (f2 b hb).1, w0⟩
  rintro n s3 ⟨i, σ3, H3, I3, st3, fr3, w3⟩
  rcases turn i n σ3 H3 w3 with ⟨stop, qn⟩ | ⟨go, N, hN, step⟩
  · refine wpAny_passesOwn hp (thn (T.done X rfl rfl rfl hc i pins s3 σ3 H3 X.xe I3 (stat fr3) st3 stop) fun r s4 ⟨hr, I4⟩ => ?_)
    subst hr
    exact wpAny_execs_nil ⟨σ3, H3, I4, qn⟩
  · refine wpAny_passesOwn hp (thn (T.item X rfl rfl rfl hc i pins s3 σ3 H3 X.xe I3 (stat fr3) st3 go) fun r s4 ⟨u, hr, h4⟩ => ?_)
    subst hr
    refine wpAny_passesOwn hp (thn h4 fun _ s5 ⟨x, H5, I5, r5, y5, st5, fr5⟩ => ?_)
    have I5' := I5.pinned (stat fr5) (T.obj _ _ st5)
    refine wpAny_passesOwn hp (thn (hg _ s5 σ3 H5 x u _ I5' r5 (step x H5 y5)) fun _ s6 ⟨σ6, H6, I6, q6⟩ => ?_)
    refine wpAny_passesOwn hp (thn (hb _ s6 σ6 H6 _ I6 q6) fun f s7 q7 => ?_)
    have again : ∀ {σ7 : St} {H7 : Hp}, Inv X (pins ++ pinsAt fp s5.heap) σ7 H7 s7 → N σ7 H7 → ∃ m, m < n ∧ ∃ i σ' H', Inv X pins σ' H' s7 ∧ tn i s7.heap ∧ (∀ b ∈ fp, H' b = none) ∧ W i m σ' H' := fun {σ7 H7} I7 n7 => by
      obtain ⟨m', hm, w7⟩ := hN σ7 H7 n7
      refine ⟨m', hm, i + 1, σ7, H7, I7.unpinned, T.keep _ _ _ st5 fun b hb o e => (I7.pin (b, o) (List.mem_append_right _ (List.mem_append_right _ (mem_pinsAt hb e)))).1, fun b hb => ?_, w7⟩
      obtain ⟨o, e, d⟩ := T.obj _ _ st5 b hb
      exact (I7.pin (b, o) (List.mem_append_right _ (List.mem_append_right _ (mem_pinsAt hb e)))).2.1
    cases f with
    | next => obtain ⟨σ7, H7, I7, n7⟩ := q7; exact again I7 n7
    | cont => obtain ⟨σ7, H7, I7, n7⟩ := q7; exact again I7 n7
    | brk => obtain ⟨σ7, H7, I7, q7⟩ := q7; exact ⟨σ7, H7, I7.unpinned, q7⟩
    | ret v => obtain ⟨x7, σ7, H7, I7, r7, q7⟩ := q7; exact ⟨x7, σ7, H7, I7.unpinned, r7, q7⟩
end
end L2
namespace L2
open PySem PySem.Spec PyProof.Rows
abbrev R2 := V → V → Hp → VK → Prop
def OpR (X : Cx) (f : Value → Value → Sem Value) (r : R2) : Prop :=
  ∀ (pins : List (Addr × Obj)) (s : Shared) (σ : St) (H : Hp) (x y : V) (v u : Value) (Q : VK), Inv X pins σ H s → RelV x v → RelV y u → r x y H Q →
    wpAny (model X.prog X.w) X.A (f v u) (EP X pins σ Q) X.xe s
def UnR (X : Cx) (f : Value → Sem Value) (r : V → Hp → VK → Prop) : Prop :=
  ∀ (pins : List (Addr × Obj)) (s : Shared) (σ : St) (H : Hp) (x : V) (v : Value) (Q : VK), Inv X pins σ H s → RelV x v → r x H Q →
    wpAny (model X.prog X.w) X.A (f v) (EP X pins σ Q) X.xe s
def CallR (X : Cx) (f : Value) (r : List V → Hp → VK → Prop) : Prop :=
  ∀ (pins : List (Addr × Obj)) (s : Shared) (σ : St) (H : Hp) (xs : List V) (us : List Value) (Q : VK), Inv X pins σ H s → Vals xs us → r xs H Q →
    wpAny (model X.prog X.w) X.A (call f us) (EP X pins σ Q) X.xe s
def tOp (r : R2) (ta tb : TE) : TE := fun σ H Q => ta σ H fun x H1 => tb σ H1 fun y H2 => r x y H2 Q
def tUn (r : V → Hp → VK → Prop) (ta : TE) : TE := fun σ H Q => ta σ H fun x H1 => r x H1 Q
def rI (C : Int → Int → Prop) (g : Int → Int → V) : R2 := fun x y H Q => ∃ i j, x = .int i ∧ y = .int j ∧ C i j ∧ Q (g i j) H
def rI0 (g : Int → Int → V) : R2 := fun x y H Q => ∃ i j, x = .int i ∧ y = .int j ∧ Q (g i j) H
def rU (g : Int → V) : V → Hp → VK → Prop := fun x H Q => ∃ i, x = .int i ∧ Q (g i) H
section
variable {X : Cx} {a b c : Expr} {ta tb tc : TE} {pos : Pos}
theorem binT (ha : PE X a ta) (hb : PE X b tb) {pins : List (Addr × Obj)} {s : Shared} {σ : St} {H : Hp} {R : V → V → Hp → Prop} (I : Inv X pins σ H s)
    (h : ta σ H fun x H1 => tb σ H1 fun y H2 => R x y H2) {Q : Value → Shared → Prop} {f : Value → Value → Sem Value}
    (hf : ∀ v u s2 x y H2, Inv X pins σ H2 s2 → RelV x v → RelV y u → R x y H2 → wpAny (model X.prog X.w) X.A (f v u) Q X.xe s2) :
    wpAny (model X.prog X.w) X.A (eval a X.env) (fun v s₁ => wpAny (model X.prog X.w) X.A (eval b X.env) (fun u s₂ => wpAny (model X.prog X.w) X.A (f v u) Q X.xe s₂) X.xe s₁) X.xe s := by
  refine thn (ha pins s σ H _ I h) fun v s1 ⟨x, H1, I1, r1, q1⟩ => ?_
  refine thn (hb pins s1 σ H1 _ I1 q1) fun u s2 ⟨y, H2, I2, r2, q2⟩ => ?_
  exact hf v u s2 x y H2 I2 r1 r2 q2
theorem pe_op {op : Operator} {r : R2} (ho : OpR X (binaryOp op) r) (ha : PE X a ta) (hb : PE X b tb) : PE X (.BinOp a op b pos) (tOp r ta tb) := by
  intro pins s σ H Q I h
  exact wpAny_BinOp (binT ha hb I h fun v u s2 x y H2 I2 rx ry q => ho pins s2 σ H2 x y v u Q I2 rx ry q)
theorem pe_un {op : UnaryOp} {r : V → Hp → VK → Prop} (ho : UnR X (unaryOp op) r) (ha : PE X a ta) : PE X (.UnaryOp op a pos) (tUn r ta) := by
  intro pins s σ H Q I h
  exact UnaryOp_ (thn (ha pins s σ H _ I h) fun v s1 ⟨x, H1, I1, r1, q1⟩ => ho pins s1 σ H1 x v Q I1 r1 q1)
theorem opI {f : Value → Value → Sem Value} {C : Int → Int → Prop} {g : Int → Int → Int}
    (rule : ∀ (i j : Int) (t u : Tok) (s : Shared) (Q : Value → Shared → Prop) (E : Value → Shared → Prop), C i j → Q (.int (g i j) s.toks) { s with toks := s.toks + 1 } → wpAny (model X.prog X.w) X.A (f (.int i t) (.int j u)) Q E s) :
    OpR X f (rI C fun i j => .int (g i j)) := by
  intro pins s σ H x y v u Q I rx ry h
  obtain ⟨i, j, rfl, rfl, hc, q⟩ := h
  obtain ⟨t, rfl⟩ := rx
  obtain ⟨t', rfl⟩ := ry
  exact rule i j t t' s _ _ hc ⟨.int (g i j), H, I.tok _, ⟨_, rfl⟩, q⟩
theorem opI0 {f : Value → Value → Sem Value} {g : Int → Int → Int}
    (rule : ∀ (i j : Int) (t u : Tok) (s : Shared) (Q : Value → Shared → Prop) (E : Value → Shared → Prop), Q (.int (g i j) s.toks) { s with toks := s.toks + 1 } → wpAny (model X.prog X.w) X.A (f (.int i t) (.int j u)) Q E s) :
    OpR X f (rI0 fun i j => .int (g i j)) := by
  intro pins s σ H x y v u Q I rx ry h
  obtain ⟨i, j, rfl, rfl, q⟩ := h
  obtain ⟨t, rfl⟩ := rx
  obtain ⟨t', rfl⟩ := ry
  exact rule i j t t' s _ _ ⟨.int (g i j), H, I.tok _, ⟨_, rfl⟩, q⟩
theorem opB0 {f : Value → Value → Sem Value} {g : Int → Int → Bool}
    (rule : ∀ (i j : Int) (t u : Tok) (s : Shared) (Q : Value → Shared → Prop) (E : Value → Shared → Prop), Q (.bool (g i j)) s → wpAny (model X.prog X.w) X.A (f (.int i t) (.int j u)) Q E s) :
    OpR X f (rI0 fun i j => .bl (g i j)) := by
  intro pins s σ H x y v u Q I rx ry h
  obtain ⟨i, j, rfl, rfl, q⟩ := h
  obtain ⟨t, rfl⟩ := rx
  obtain ⟨t', rfl⟩ := ry
  exact rule i j t t' s _ _ ⟨.bl (g i j), H, I, rfl, q⟩
theorem op_add : OpR X (binaryOp .Add) (rI0 fun i j => .int (i + j)) := opI0 fun _ _ _ _ _ _ _ q => add_int q
theorem op_sub : OpR X (binaryOp .Sub) (rI0 fun i j => .int (i - j)) := opI0 fun _ _ _ _ _ _ _ q => sub_int q
theorem op_mod : OpR X (binaryOp .Mod) (rI (fun _ j => 0 < j) fun i j => .int (i % j)) := opI fun i j _ _ _ _ _ hc q => by
  have h1 : (0 : Int) < j := hc
  exact mod_int' (by omega) (by rw [Int.fmod_eq_emod_of_nonneg i (by omega)]; exact q)
theorem unI {f : Value → Sem Value} {g : Int → Int}
    (rule : ∀ (i : Int) (t : Tok) (s : Shared) (Q : Value → Shared → Prop) (E : Value → Shared → Prop), Q (.int (g i) s.toks) { s with toks := s.toks + 1 } → wpAny (model X.prog X.w) X.A (f (.int i t)) Q E s) :
    UnR X f (rU fun i => .int (g i)) := by
  intro pins s σ H x v Q I rx h
  obtain ⟨i, rfl, q⟩ := h
  obtain ⟨t, rfl⟩ := rx
  exact rule i t s _ _ ⟨.int (g i), H, I.tok _, ⟨_, rfl⟩, q⟩
theorem un_neg : UnR X (unaryOp .USub) (rU fun i => .int (-i)) := unI fun _ _ _ _ _ q => neg_int q
end
section
variable {X : Cx} {a b c : Expr} {ta tb tc : TE} {pos : Pos}
theorem fin_bl {pins : List (Addr × Obj)} {σ : St} {H : Hp} {s : Shared} {Q : VK} {k k' : Bool} (I : Inv X pins σ H s) (q : Q (.bl k) H) (e : k = k') : EP X pins σ Q (.bool k') s := by
  subst e
  exact ⟨.bl k, H, I, rfl, q⟩
theorem op_lt : OpR X (compareOp .Lt) (rI0 fun i j => .bl (decide (i < j))) := opB0 fun _ _ _ _ _ _ _ q => lt_int q
theorem op_gt : OpR X (compareOp .Gt) (rI0 fun i j => .bl (decide (j < i))) := opB0 fun _ _ _ _ _ _ _ q => gt_int q
theorem op_ge : OpR X (compareOp .GtE) (rI0 fun i j => .bl (decide (j ≤ i))) := opB0 fun _ _ _ _ _ _ _ q => ge_int q
theorem op_in_str : OpR X (compareOp .In) (fun x y H Q => ∃ i j, x = .str i ∧ y = .str j ∧ Q (.bl (!(Builtin.Str.occurrences j i 0 j.length 1).isEmpty)) H) := by
  intro pins s σ H x y v u Q I rx ry h
  obtain ⟨i, j, rfl, rfl, q⟩ := h
  obtain ⟨t, rfl⟩ := rx
  obtain ⟨t', rfl⟩ := ry
  exact in_str (fin_bl I q rfl)
theorem op_notN : OpR X (compareOp .IsNot) (fun x y H Q => y = .non ∧ Q (.bl (!decide (x = .non))) H) := by
  intro pins s σ H x y v u Q I rx ry h
  obtain ⟨rfl, q⟩ := h
  cases ry
  refine isnot_none_gen (fin_bl I q ?_)
  cases x <;> first
    | (cases rx; rfl)
    | (obtain ⟨t, rfl⟩ := rx; rfl)
theorem op_notin_str : OpR X (compareOp .NotIn) (fun x y H Q => ∃ i j, x = .str i ∧ y = .str j ∧ Q (.bl (!(!(Builtin.Str.occurrences j i 0 j.length 1).isEmpty))) H) := by
  intro pins s σ H x y v u Q I rx ry h
  obtain ⟨i, j, rfl, rfl, q⟩ := h
  obtain ⟨t, rfl⟩ := rx
  obtain ⟨t', rfl⟩ := ry
  exact notIn_str (fin_bl I q rfl)
theorem OpR.or {f : Value → Value → Sem Value} {r r' : R2} (h : OpR X f r) (h' : OpR X f r') : OpR X f (fun x y H Q => r x y H Q ∨ r' x y H Q) := by
  intro pins s σ H x y v u Q I rx ry q
  rcases q with q | q
  · exact h pins s σ H x y v u Q I rx ry q
  · exact h' pins s σ H x y v u Q I rx ry q
theorem nomark (b : Expr) {op : CmpOp} (h : op ≠ .In := by decide) (h2 : op ≠ .NotIn := by decide) : behindInMarks op b = false := by
  have e1 : (op == CmpOp.In) = false := by cases op <;> first | rfl | exact absurd rfl h
  have e2 : (op == CmpOp.NotIn) = false := by cases op <;> first | rfl | exact absurd rfl h2
  cases b <;> simp [behindInMarks, e1, e2]
theorem pe_cmpR {op : CmpOp} {r : R2} (ho : OpR X (compareOp op) r) (ha : PE X a ta) (hb : PE X b tb) (hm : behindInMarks op b = false) : PE X (.Compare a [op] [b] pos) (tOp r ta tb) := by
  intro pins s σ H Q I h
  exact wpAny_Compare1 (binT ha hb I h fun v u s2 x y H2 I2 rx ry q => ho pins s2 σ H2 x y v u Q I2 rx ry q) hm
def tTest (t : TE) : TT := fun σ H Q => t σ H fun x H' => ∃ k, x = .bl k ∧ Q k H'
theorem pt_cmpR {op : CmpOp} {r : R2} (ho : OpR X (compareOp op) r) (ha : PE X a ta) (hb : PE X b tb) (hm : behindInMarks op b = false) : PT X (.Compare a [op] [b] pos) (tTest (tOp r ta tb)) := by
  intro pins s σ H Q I h
  refine wpAny_isTrue_Compare1 (thn (ha pins s σ H _ I h) fun v s1 ⟨x, H1, I1, r1, q1⟩ => thn (hb pins s1 σ H1 _ I1 q1) fun u s2 ⟨y, H2, I2, r2, q2⟩ =>
    thn (ho pins s2 σ H2 x y v u _ I2 r1 r2 q2) fun c s3 ⟨z, H3, I3, r3, k, e, q3⟩ => ?_) hm
  subst e
  cases r3
  exact wpAny_truthy_bool ⟨H3, I3, q3⟩
theorem line63 : (sizeLine : Nat) < 2 ^ 63 := by rw [sizeLine_eq]; decide
theorem op_add_str : OpR X (binaryOp .Add) (fun x y H Q => ∃ i j, x = .str i ∧ y = .str j ∧ i.length + j.length ≤ sizeLine ∧ Q (.str (i ++ j)) H) := by
  intro pins s σ H x y v u Q I rx ry h
  obtain ⟨i, j, rfl, rfl, hz, q⟩ := h
  obtain ⟨t, rfl⟩ := rx
  obtain ⟨t', rfl⟩ := ry
  exact add_str (fun t' tk => ⟨.str (i ++ j), H, I.tok _, ⟨_, rfl⟩, q⟩) hz
theorem vals1 {x : V} {us : List Value} (r : Vals [x] us) : ∃ u, us = [u] ∧ RelV x u := by
  cases r with
  | cons r1 r2 => cases r2; exact ⟨_, rfl, r1⟩
theorem vals2 {x y : V} {us : List Value} (r : Vals [x, y] us) : ∃ u w', us = [u, w'] ∧ RelV x u ∧ RelV y w' := by
  cases r with
  | cons r1 r2 =>
    cases r2 with
    | cons r3 r4 => cases r4; exact ⟨_, _, rfl, r1, r3⟩
theorem call_max2 (hc : X.calm = true) : CallR X (.builtin "max") (fun xs H Q => ∃ i j, xs = [.int i, .int j] ∧ Q (.int (if j > i then j else i)) H) := by
  intro pins s σ H xs us Q I r h
  obtain ⟨i, j, rfl, q⟩ := h
  obtain ⟨u, w', rfl, ⟨t, rfl⟩, ⟨t', rfl⟩⟩ := vals2 r
  refine max_two_ints (I.ok.hd hc) fun h' tk k => ⟨_, H, I.kept k, ?_, q⟩
  by_cases hj : j > i
  · rw [if_pos hj, if_pos hj]; exact ⟨_, rfl⟩
  · rw [if_neg hj, if_neg hj]; exact ⟨_, rfl⟩
theorem call_min2 (hc : X.calm = true) : CallR X (.builtin "min") (fun xs H Q => ∃ i j, xs = [.int i, .int j] ∧ Q (.int (if j < i then j else i)) H) := by
  intro pins s σ H xs us Q I r h
  obtain ⟨i, j, rfl, q⟩ := h
  obtain ⟨u, w', rfl, ⟨t, rfl⟩, ⟨t', rfl⟩⟩ := vals2 r
  refine min_two_ints (I.ok.hd hc) fun h' tk k => ⟨_, H, I.kept k, ?_, q⟩
  by_cases hj : j < i
  · rw [if_pos hj, if_pos hj]; exact ⟨_, rfl⟩
  · rw [if_neg hj, if_neg hj]; exact ⟨_, rfl⟩
theorem call_str_int : CallR X (.type "str") (fun xs H Q => ∃ i, xs = [.int i] ∧ i.natAbs.log2 < 1920 ∧ Q (.str (toString i)) H) := by
  intro pins s σ H xs us Q I r h
  obtain ⟨i, rfl, hz, q⟩ := h
  obtain ⟨u, rfl, t, rfl⟩ := vals1 r
  exact PySem.P.str_of_int hz ⟨.str _, H, I.tok _, ⟨_, rfl⟩, q⟩
end
end L2
namespace L2
open PySem PySem.Spec PyProof.Rows
section
variable {prog : Program} {w : World} {A : Around} {E : Value → Shared → Prop} {s : Shared} {K : PySem.W.Frag} {x dx C f : Addr} {mA : Str → Option Value} {name : Str} {v : Value}
end
section
variable {P : Program} {w : World} {H H' : Hp} {h h' : Heap} {a C dx : Addr} {fs fs' : List (Str × V)}
end
section
variable {X : Cx} {pins : List (Addr × Obj)} {σ : St} {H : Hp} {s : Shared} {a C dx : Addr} {fs : List (Str × V)} {f : Str} {v : V} {A : Around} {E : Value → Shared → Prop}
end
section
variable {X : Cx} {o e value : Expr} {f : Str} {pos pos' tpos : Pos} {ta tv : TE}
end
section
variable {X : Cx} {pins : List (Addr × Obj)} {σ : St} {H : Hp} {s : Shared} {A : Around} {E : Value → Shared → Prop} {Q : Value → Shared → Prop} {c : Value} {b : Bool}
end
end L2
namespace L2
open PySem PySem.Spec PyProof.Rows
structure Room (k : Nat) (A : Around) : Prop where
  hd : A.handled = none
  dp : A.depth + 3 * k + 5 < recursionLimit
  un : A.units + 16 * k + 200 < cLine
theorem Room.mono {j k : Nat} {A : Around} (r : Room k A) (h : j ≤ k) : Room j A := ⟨r.hd, by have := r.dp; omega, by have := r.un; omega⟩
theorem Room.deeper {k : Nat} {A : Around} (r : Room (k + 1) A) (env : Env) : Room k (A.deeper env) :=
  ⟨r.hd, by have := r.dp; show A.depth + 1 + 3 * k + 5 < _; omega, by have := r.un; show A.units + 3 + 16 * k + 200 < _; omega⟩
theorem Room.depth {k : Nat} {A : Around} (r : Room k A) : A.depth < recursionLimit := by have := r.dp; omega
def tNil : TA := fun _ H Q => Q [] H
def tCons (ta : TE) (tr : TA) : TA := fun σ H Q => ta σ H fun x H1 => tr σ H1 fun xs H2 => Q (x :: xs) H2
section
variable {X : Cx} {e : Expr} {es : List Expr} {te : TE} {t : TA} {pos : Pos}
theorem pa_nil : PA X [] tNil := fun _ _ _ _ H Q I h => Calls.spliced_nil ⟨[], H, I, .nil, h⟩
theorem pa_cons (ha : PE X e te) (hr : PA X es t) (hs : starEach (e :: es) X.env = (false, eval e X.env) :: starEach es X.env := by rfl) : PA X (e :: es) (tCons te t) := by
  intro pos pins s σ H Q I h
  rw [hs]
  show wpAny _ _ (spliced ((false, eval e X.env) :: backTo pos (starEach es X.env))) _ _ s
  refine Calls.spliced_cons (thn (ha pins s σ H _ I h) fun u s1 ⟨x, H1, I1, r1, q1⟩ => ?_)
  exact thn (hr pos pins s1 σ H1 _ I1 q1) fun us s2 ⟨xs, H2, I2, r2, q2⟩ => ⟨x :: xs, H2, I2, .cons r1 r2, q2⟩
def tTup (t : TA) : TE := fun σ H Q => t σ H fun xs H1 => xs.length ≤ sizeLine ∧ ∀ p, H1 p = none → Q (.ref p) (upd H1 p (.tup xs))
def tLst (t : TA) : TE := fun σ H Q => t σ H fun xs H1 => xs.length ≤ sizeLine ∧ ∀ p, H1 p = none → Q (.ref p) (upd H1 p (.lst xs))
theorem pe_tup {x1} (h : PA X es t) : PE X (.Tuple es x1 pos) (tTup t) := by
  intro pins s σ H Q I hq
  refine wpAny_Tuple_spliced (thn (h pos pins s σ H _ I hq) fun us s1 ⟨xs, H1, I1, r, z, q⟩ => ⟨by rw [← r.length]; exact z, ?_⟩)
  have hf : H1 s1.heap.objs.size = none := I1.hok.fresh (Nat.le_refl _)
  refine ⟨.ref s1.heap.objs.size, upd H1 s1.heap.objs.size (.tup xs), I1.laid (t' := s1.toks) (fun b u e => Heap.get?_push_of_some _ e) (Nat.le_refl _) ?_, rfl, q _ hf⟩
  exact ⟨z, us, r, ⟨_, Heap.get?_push_size _ rfl, rfl, _, rfl⟩⟩
theorem pe_lst (h : PA X es t) : PE X (.List es pos) (tLst t) := by
  intro pins s σ H Q I hq
  refine wpAny_List_spliced (thn (h pos pins s σ H _ I hq) fun us s1 ⟨xs, H1, I1, r, z, q⟩ => ⟨by rw [← r.length]; exact z, ?_⟩)
  have hf : H1 s1.heap.objs.size = none := I1.hok.fresh (Nat.le_refl _)
  refine ⟨.ref s1.heap.objs.size, upd H1 s1.heap.objs.size (.lst xs), I1.laid (t' := s1.toks) (fun b u e => Heap.get?_push_of_some _ e) (Nat.le_refl _) ?_, rfl, q _ hf⟩
  exact ⟨z, us, 0, r, Heap.get?_push_size _ rfl⟩
end
abbrev Sp := List V → Hp → VK → XK → Prop
abbrev CXT := List Env → Hp → Shared → XK → Value → Shared → Prop
structure Env0 (P : Program) (w : World) (K : PySem.W.Frag) (mg : Str → Option Value) (base : Heap) (A : Around) (outer : List Env) (s : Shared) (H : Hp) : Prop where
  frames : A.frames = some outer
  mod : Mod K mg base
  bs : ∀ b o, base.get? b = some o → s.heap.get? b = some o ∧ H b = none
  bsz : base.objs.size ≤ s.heap.objs.size
  funs : s.heap.FunFrames base outer
  frf : ∀ b ∈ frs outer, H b = none
  hok : HOk P w H s.heap
  bare : AllBare s.gens
def CE (outer : List Env) (P : Program) (w : World) (H : Hp) (s : Shared) (Q : VK) (u : Value) (s' : Shared) : Prop :=
  ∃ v H', s'.os = s.os ∧ AllBare s'.gens ∧ Un (frs outer) [] H H' s.heap s'.heap ∧ HOk P w H' s'.heap ∧ RelV v u ∧ Q v H'
def CR (CX : CXT) (outer : List Env) (P : Program) (w : World) (H : Hp) (s : Shared) (Q : VK) (E : XK) (r : Result) (s' : Shared) : Prop :=
  match r with
  | .ok (.ret u) => CE outer P w H s Q u s'
  | .ok _ => False
  | .error e => CX outer H s E e s'
structure FnOk (P : Program) (w : World) (K : PySem.W.Frag) (mg : Str → Option Value) (base : Heap) (CX : CXT) (k : Nat) (f : Addr) (fd : FuncData) (ps : List Str) (sp : Sp) : Prop where
  len : ∀ vs H Q E, sp vs H Q E → vs.length = ps.length
  run : ∀ (A : Around) (outer : List Env) (s : Shared) (H : Hp) (args : Args) (us : List Value) (vs : List V) (Q : VK) (E : XK), Room k A → Env0 P w K mg base A outer s H → BindsTo s fd args (ps.zip us) → Vals vs us → sp vs H Q E →
    codeAny (model P w) A (.call (.ref f) args) (CR CX outer P w H s Q E) s
section
variable {X : Cx} {pins : List (Addr × Obj)} {σ : St} {H : Hp} {s s' : Shared}
theorem Inv.env0 (I : Inv X pins σ H s) : Env0 X.prog X.w X.K X.mg X.base X.A X.stack s H :=
  ⟨I.ok.frames, I.ok.mod, I.bs, Nat.le_trans I.ok.bsz I.sz, I.stack, I.stkFree, I.hok, I.bare⟩
theorem Inv.after {Q : VK} {u : Value} (I : Inv X pins σ H s) (h : CE X.stack X.prog X.w H s Q u s') : EP X pins σ Q u s' := by
  obtain ⟨v, H', os, bare, un, hok, r, q⟩ := h
  obtain ⟨hh, g, d, t, os'⟩ := s'
  obtain rfl : os' = s.os := os
  exact ⟨v, H', I.call (h' := hh) (g' := g) (d' := d) (t' := t) (ch := []) un hok bare (fun b z => absurd z (by simp)), r, q⟩
end
def tCall (sp : Sp) (dvs : List V) (E : XK) (t : TA) : TE := fun σ H Q => t σ H fun vs H1 => sp (vs ++ dvs) H1 Q E
def Binds (K : PySem.W.Frag) (fd : FuncData) (ps : List Str) (ds : List Value) : Prop :=
  ∀ (s : Shared) (us : List Value), K.In s.heap → (us ++ ds).length = ps.length → BindsTo s fd ⟨us, []⟩ (ps.zip (us ++ ds))
theorem Binds.all {K : PySem.W.Frag} {fd : FuncData} {ps : List Str} (h : ∀ us : List Value, us.length = ps.length → bindArgs fd ⟨us, []⟩ = pure (ps.zip us)) : Binds K fd ps [] := fun s us _ hl => by
  rw [List.append_nil] at hl ⊢
  exact .of_eq (h us hl)
def Passes (CX : CXT) (X : Cx) (E : XK) : Prop := ∀ (pins : List (Addr × Obj)) (σ : St) (H : Hp) (s : Shared) (e : Value) (s' : Shared), Inv X pins σ H s → CX X.stack H s E e s' → X.xe e s'
section
variable {X : Cx} {CX : CXT} {k : Nat} {f C : Addr} {fd : FuncData} {ps : List Str} {sp : Sp} {dvs : List V} {ds : List Value} {E : XK} {x m : Str} {p pos apos : Pos} {e o : Expr} {es : List Expr} {ta : TE} {t : TA}
theorem run_fn {pins : List (Addr × Obj)} {σ : St} {H : Hp} {s : Shared} {Q : VK} {us : List Value} {vs : List V} (F : FnOk X.prog X.w X.K X.mg X.base CX k f fd ps sp) (hr : Room k X.A) (hb : Binds X.K fd ps ds) (hd : Vals dvs ds) (hx : Passes CX X E)
    (I : Inv X pins σ H s) (r : Vals vs us) (h : sp (vs ++ dvs) H Q E) : wpAny (model X.prog X.w) X.A (call (.ref f) us) (EP X pins σ Q) X.xe s := by
  have r2 : Vals (vs ++ dvs) (us ++ ds) := r.append hd
  have hl : (us ++ ds).length = ps.length := by rw [← r2.length]; exact F.len _ _ _ _ h
  refine wpAny_call (codeAny_mono (F.run X.A X.stack s H ⟨us, []⟩ (us ++ ds) (vs ++ dvs) Q E hr I.env0 (hb s us I.kIn hl) r2 h) fun r s' hq => ?_)
  cases r with
  | error e => exact hx pins σ H s e s' I hq
  | ok fl =>
    cases fl with
    | ret u => exact I.after hq
    | next => exact False.elim hq
    | brk => exact False.elim hq
    | cont => exact False.elim hq
theorem pe_call (F : FnOk X.prog X.w X.K X.mg X.base CX k f fd ps sp) (hr : Room k X.A) (hg : Gl X x) (hm : X.mg x = some (.ref f)) (hk : PySem.W.keepIn X.K (.ref f) = true) (hb : Binds X.K fd ps ds) (hd : Vals dvs ds) (hx : Passes CX X E)
    (ha : PA X (e :: es) t) (hdb : (x == ("__debug__" : Str)) = false := by decide) (he : starEach (e :: es) X.env = (false, eval e X.env) :: starEach es X.env := by rfl) (hpl : (backTo pos (starEach es X.env)).any (·.1) = false := by rfl) :
    PE X (.Call (.Name x p) (e :: es) [] pos) (tCall sp dvs E t) := by
  intro pins s σ H Q I h
  refine wpAny_Call_Name_kw (ld_glob I hg hm ?_ hdb)
  refine PySem.W.callWith_K (h₀ := X.base) I.ok.mod.kin hk (thn (ha pos pins s σ H _ I h) fun us s1 ⟨vs, H1, I1, r, q⟩ => ⟨I1.kIn, ?_⟩) he hpl
  exact run_fn F hr hb hd hx I1 r q
end
section
variable {X : Cx} {CX : CXT} {k : Nat} {f C : Addr} {fd : FuncData} {ps ks : List Str} {sp : Sp} {E : XK} {x m : Str} {p pos apos kpos : Pos} {e o : Expr} {es : List Expr} {kws : List Keyword} {te ta : TE} {t tk : TA} {nm : Option Str}
variable {g : List Value → List Value → List Value} {gV : List V → List V → List V}
end
structure FnScope (N P : List Str) (sc : Scope) : Prop where
  kind : sc.kind = .function
  co : sc.isCoroutine = false
  gen : sc.isGenerator = false
  nd : N.Nodup
  pre : N.take P.length = P
  par : ∀ x ∈ P, sc.names.lookup x = some .local ∨ sc.names.lookup x = some .cell
  nofree : ∀ y ∈ sc.names, y.2 ≠ .free
theorem bindL_out {kindOf : Str → Option NameKind} {x : Str} : ∀ {binds : List (Str × Value)} {m : Str → Option Value}, (∀ v, (x, v) ∉ binds) → bindL kindOf binds m x = m x
  | [], _, _ => rfl
  | (n, v) :: r, m, h => by
    unfold bindL
    rw [bindL_out fun w hw => h w (List.mem_cons_of_mem _ hw)]
    split
    · have : x ≠ n := by rintro rfl; exact h v List.mem_cons_self
      simp [this]
    · rfl
theorem bindC_out {kindOf : Str → Option NameKind} {x : Str} : ∀ {binds : List (Str × Value)} {m : Str → Option Value}, (∀ v, (x, v) ∉ binds) → bindC kindOf binds m x = m x
  | [], _, _ => rfl
  | (n, v) :: r, m, h => by
    unfold bindC
    rw [bindC_out fun w hw => h w (List.mem_cons_of_mem _ hw)]
    split
    · rfl
    · have : x ≠ n := by rintro rfl; exact h v List.mem_cons_self
      simp [this]
theorem bindL_get {kindOf : Str → Option NameKind} {x : Str} {v : Value} : ∀ {P : List Str} {vs : List Value} {i : Nat} {m : Str → Option Value}, P.Nodup → P[i]? = some x → vs[i]? = some v → kindOf x = some .local →
    bindL kindOf (P.zip vs) m x = some v
  | [], _, _, _, _, h, _, _ => by simp at h
  | _ :: _, [], _, _, _, _, h, _ => by simp at h
  | p :: P, w :: vs, 0, m, nd, h1, h2, hk => by
    simp at h1 h2; subst h1; subst h2
    show bindL kindOf ((p, w) :: P.zip vs) m p = _
    unfold bindL
    rw [bindL_out fun v hv => (List.nodup_cons.mp nd).1 (List.of_mem_zip hv).1, if_pos hk]
    simp
  | p :: P, w :: vs, i + 1, m, nd, h1, h2, hk => by
    show bindL kindOf ((p, w) :: P.zip vs) m x = _
    unfold bindL
    exact bindL_get (i := i) (List.nodup_cons.mp nd).2 (by simpa using h1) (by simpa using h2) hk
theorem bindC_get {kindOf : Str → Option NameKind} {x : Str} {v : Value} : ∀ {P : List Str} {vs : List Value} {i : Nat} {m : Str → Option Value}, P.Nodup → P[i]? = some x → vs[i]? = some v → kindOf x ≠ some .local →
    bindC kindOf (P.zip vs) m x = some v
  | [], _, _, _, _, h, _, _ => by simp at h
  | _ :: _, [], _, _, _, _, h, _ => by simp at h
  | p :: P, w :: vs, 0, m, nd, h1, h2, hk => by
    simp at h1 h2; subst h1; subst h2
    show bindC kindOf ((p, w) :: P.zip vs) m p = _
    unfold bindC
    rw [bindC_out fun v hv => (List.nodup_cons.mp nd).1 (List.of_mem_zip hv).1, if_neg hk]
    simp
  | p :: P, w :: vs, i + 1, m, nd, h1, h2, hk => by
    show bindC kindOf ((p, w) :: P.zip vs) m x = _
    unfold bindC
    exact bindC_get (i := i) (List.nodup_cons.mp nd).2 (by simpa using h1) (by simpa using h2) hk
def start (N : List Str) (vs : List V) : St := vs.map some ++ List.replicate (N.length - vs.length) none
def cxOf (CX : CXT) (P : Program) (w : World) (K : PySem.W.Frag) (mg : Str → Option Value) (base : Heap) (N : List Str) (qual : Str) (scope : Scope) (f : Addr) (cd : Value) (A : Around) (outer : List Env) (s : Shared) (H : Hp) (E : XK) : Cx where
  prog := P
  w := w
  K := K
  mg := mg
  base := base
  A := A.deeper (envOfC qual scope s.heap.objs.size f cd)
  N := N
  s₀ := s
  H₀ := H
  env := envOfC qual scope s.heap.objs.size f cd
  outer := outer
  stack := envOfC qual scope s.heap.objs.size f cd :: outer
  ex := []
  calm := true
  fn := fun _ => true
  pn := []
  xe := fun e s' => wpAny (model P w) (A.deeper (envOfC qual scope s.heap.objs.size f cd)) (leaving (envOfC qual scope s.heap.objs.size f cd) e) (fun _ s'' => CX outer H s E e s'') (fun e' s'' => CX outer H s E e' s'') s'
theorem cell_has {sc : Scope} {n : Nat} {x : Str} (h : sc.names.lookup x = some .cell) : ∃ c, (cellsFrom n sc.names []).lookup x = some c := by
  have q := PySem.W.cellsFrom_some sc.names n [] (.inl h)
  exact Option.isSome_iff_exists.mp q
theorem inv_start {CX : CXT} {P : Program} {w : World} {K : PySem.W.Frag} {mg : Str → Option Value} {base : Heap} {N ps : List Str} {qual : Str} {scope : Scope} {f : Addr} {cd : Value} {A : Around} {outer : List Env} {s s1 : Shared} {H : Hp} {E : XK} {us : List Value} {vs : List V}
    (S : FnScope N ps scope) (hd : A.handled = none) (e0 : Env0 P w K mg base A outer s H) (hl : vs.length = ps.length) (r : Vals vs us)
    (x : InCallC s s.heap.objs.size (bindL (envOfC qual scope s.heap.objs.size f cd).kindOf (ps.zip us) fun _ => none) (cellsFrom (s.heap.objs.size + 1) scope.names []) (bindC (envOfC qual scope s.heap.objs.size f cd).kindOf (ps.zip us) fun _ => none) s1) :
    Inv (cxOf CX P w K mg base N qual scope f cd A outer s H E) [] (start N vs) H s1 := by
  have hpl : ps.length ≤ N.length := by have := congrArg List.length S.pre; rw [List.length_take] at this; omega
  obtain ⟨h1, tk, rfl, hk⟩ := x.done
  have noA : ∀ b : Addr, b ∉ (cxOf CX P w K mg base N qual scope f cd A outer s H E).ex := fun b z => absurd (show b ∈ ([] : List Addr) from z) (by simp)
  refine ⟨⟨e0.mod, S.kind, rfl, rfl, Nat.le_refl _, fun y z c h1 h2 => ?_, fun y hy => ?_, fun y c _ h => ?_, fun _ => hd, Around.frames_deeper e0.frames, .inr ⟨rfl, rfl⟩, fun b z => absurd z (noA b), e0.bs, e0.bsz, fun b _ _ => noA b, fun b z => absurd z (noA b), e0.funs, e0.frf⟩,
    rfl, e0.bare, Un.kept hk, ⟨_, x.toInCall.ns, fun i y v h1 h2 h3 => ?_⟩, fun y c h => ⟨_, x.cell y c h⟩, e0.hok.fresh (Nat.le_refl _), fun y c h => ?_, fun p hp => absurd (show p ∈ ([] : List (Addr × Obj)) from hp) (by simp), e0.hok.kept hk, ?_⟩
  · exact name_of_addr x.apart (PySem.mem_of_lookup h1) (PySem.mem_of_lookup h2)
  · have hy : scope.names.lookup y = some .cell ∨ scope.names.lookup y = some .free := hy
    rcases hy with hy | hy
    · exact cell_has hy
    · exact absurd rfl (S.nofree _ (PySem.mem_of_lookup hy))
  · exact Nat.le_of_lt (x.above y c (PySem.mem_of_lookup h))
  · have hi : i < vs.length := by
      unfold start at h2
      by_cases hi : i < vs.length
      · exact hi
      · rw [List.getElem?_append_right (by simpa using hi)] at h2
        rw [List.getElem?_replicate] at h2
        split at h2 <;> cases h2
    have ha : vs[i]? = some v := by
      unfold start at h2
      rw [List.getElem?_append_left (by simpa using hi), List.getElem?_map] at h2
      cases e : vs[i]? with
      | none => rw [e] at h2; cases h2
      | some a => rw [e] at h2; cases h2; rfl
    obtain ⟨u, hu, rv⟩ := r.get ha
    have hp : ps[i]? = some y := by
      rw [← S.pre, List.getElem?_take_of_lt (by omega)]; exact h1
    have ndP : ps.Nodup := by rw [← S.pre]; exact S.nd.sublist (List.take_sublist _ _)
    refine ⟨u, rv, ?_⟩
    rcases S.par y (List.mem_of_getElem? hp) with k | k
    · exact .inl ⟨k, bindL_get ndP hp hu k⟩
    · obtain ⟨c, e⟩ := cell_has (n := s.heap.objs.size + 1) k
      refine .inr ⟨.inl k, c, e, ?_⟩
      have q := x.cell y c e
      rw [bindC_get ndP hp hu (by show scope.names.lookup y ≠ _; rw [k]; decide)] at q
      exact q
  · exact e0.hok.fresh (Nat.le_of_lt (x.above y c (PySem.mem_of_lookup h)))
  · unfold start
    show _ = N.length
    rw [List.length_append, List.length_map, List.length_replicate]
    omega
theorem fn_of {CX : CXT} {P : Program} {w : World} {K : PySem.W.Frag} {mg : Str → Option Value} {base : Heap} {k : Nat} {f : Addr} {name qual : Str} {params : Arguments} {body : List Stmt} {scope : Scope} {dV kV doc pm cdv ct oc : Value} {an od : Option Addr}
    {osl : Array (Option Value)} {N ps : List Str} {sp : Sp} (lk : K.lookup f = some ⟨oc, od, .func (PySem.W.fnOf name qual params body scope dV kV doc pm an cdv ct), osl⟩) (hcd : PySem.W.codeIn K cdv qual = true) (S : FnScope N ps scope)
    (len : ∀ vs H Q E, sp vs H Q E → vs.length = ps.length)
    (hbody : ∀ (A : Around) (outer : List Env) (s : Shared) (H : Hp) (vs : List V) (Q : VK) (E : XK), Room k (A.deeper (envOfC qual scope s.heap.objs.size f cdv)) → sp vs H Q E →
      ∃ t, PSs (cxOf CX P w K mg base N qual scope f cdv A outer s H E) body t ∧ t { nx := fun _ H' => Q .non H', rt := Q } (start N vs) H) :
    FnOk P w K mg base CX (k + 1) f (PySem.W.fnOf name qual params body scope dV kV doc pm an cdv ct) ps sp := by
  refine ⟨len, fun A outer s H args us vs Q E hr e0 hb r hsp => ?_⟩
  have hl := len _ _ _ _ hsp
  have KX : K.In s.heap := e0.mod.kin.keeps fun b o e => (e0.bs b o e).1
  have lim : s.heap.NoLimit := e0.mod.nolimit.keeps fun b o e => (e0.bs b o e).1
  have hkind : ∀ y ∈ ps.zip us, scope.names.lookup y.1 = some .local ∨ (scope.names.lookup y.1 = some .cell ∧ ((cellsFrom (s.heap.objs.size + 1) scope.names []).lookup y.1).isSome = true) := fun ⟨n, v⟩ hy => by
    rcases S.par n (List.of_mem_zip hy).1 with q | q
    · exact .inl q
    · exact .inr ⟨q, PySem.W.cellsFrom_some _ _ _ (.inl q)⟩
  refine codeAny_call_function hr.depth (KX _ _ lk) rfl S.co S.gen rfl (PySem.W.codeRec_of KX hcd) (hb _ _ _ _ ?_)
  refine wpAny_newFunctionEnv_cells S.kind hkind fun env he s1 x => ?_
  subst he
  refine ⟨lim.keeps x.toInCall.keep, codeAny_func ?_⟩
  obtain ⟨t, ht, hq⟩ := hbody A outer s H vs Q E (hr.deeper _) hsp
  have I : Inv (cxOf CX P w K mg base N qual scope f cdv A outer s H E) [] (start N vs) H s1 := inv_start S hr.hd e0 hl r x
  refine wpAny_mono (ht [] s1 (start N vs) H _ I hq) (fun fl s' hs => ?_) fun e s' hs => hs
  have fin : ∀ {σ' : St} {H' : Hp} {v : V} {u : Value}, Inv (cxOf CX P w K mg base N qual scope f cdv A outer s H E) [] σ' H' s' → RelV v u → Q v H' → CE outer P w H s Q u s' :=
    fun {σ' H' v u} J rv q => ⟨v, H', J.os, J.bare, J.base, J.hok, rv, q⟩
  cases fl with
  | ret u =>
    obtain ⟨v, σ', H', J, rv, q⟩ := hs
    exact fin J rv q
  | next =>
    obtain ⟨σ', H', J, q⟩ := hs
    exact fin (v := V.non) (u := Value.none) J rfl q
  | brk =>
    obtain ⟨_, _, _, q⟩ := hs
    exact False.elim q
  | cont =>
    obtain ⟨_, _, _, q⟩ := hs
    exact False.elim q
end L2
namespace L2
open PySem PySem.Spec PyProof.Rows
section
variable {X : Cx} {x : Str} {p pos : Pos} {e : Expr} {es : List Expr} {t : TA} {id T : String} {r : List V → Hp → VK → Prop}
def tCB (r : List V → Hp → VK → Prop) (t : TA) : TE := fun σ H Q => t σ H fun vs H1 => r vs H1 Q
theorem pe_callB (hc : CallR X (.builtin id) r) (hg : Gl X x) (hm : X.mg x = none) (hv : bootBuiltins x = some (.builtin id)) (ha : PA X (e :: es) t) (hn : x ≠ "__name__" := by decide) (hdb : (x == ("__debug__" : Str)) = false := by decide)
    (he : starEach (e :: es) X.env = (false, eval e X.env) :: starEach es X.env := by rfl) (hpl : (backTo pos (starEach es X.env)).any (·.1) = false := by rfl) : PE X (.Call (.Name x p) (e :: es) [] pos) (tCB r t) := by
  intro pins s σ H Q I h
  refine wpAny_Call_Name_kw (ld_blt I hg hm hv ?_ hn hdb)
  exact PyProof.Rows.callWith_builtin1 (thn (ha pos pins s σ H _ I h) fun us s1 ⟨vs, H1, I1, r1, q1⟩ => hc pins s1 σ H1 vs us Q I1 r1 q1) he hpl
theorem pe_callTy (hc : CallR X (.type T) r) (hg : Gl X x) (hm : X.mg x = none) (hv : bootBuiltins x = some (.type T)) (ha : PA X (e :: es) t) (hn : x ≠ "__name__" := by decide) (hdb : (x == ("__debug__" : Str)) = false := by decide)
    (he : starEach (e :: es) X.env = (false, eval e X.env) :: starEach es X.env := by rfl) (hpl : (backTo pos (starEach es X.env)).any (·.1) = false := by rfl) : PE X (.Call (.Name x p) (e :: es) [] pos) (tCB r t) := by
  intro pins s σ H Q I h
  refine wpAny_Call_Name_kw (ld_blt I hg hm hv ?_ hn hdb)
  exact PyProof.Rows.callWith_type1 (thn (ha pos pins s σ H _ I h) fun us s1 ⟨vs, H1, I1, r1, q1⟩ => hc pins s1 σ H1 vs us Q I1 r1 q1) he hpl
end
end L2
namespace HT
open PySem PyProof.Rows
section
open PySem.SeqAt
open PySem.AutoSeq1 (wpAny_loadPart')
open PySem.MeetsSeq PySem.MeetsSeq2 PySem.MeetsSeq3
end
section
variable {prog : Program} {w : World} {A : Around} {E : Value → Shared → Prop} {s : Shared}
theorem cat_tup {t b : Addr} {vs ws : List Value} {Q : Value → Shared → Prop} (ht : IsTup s.heap t vs.toArray) (hb : IsTup s.heap b ws.toArray) (hv : vs ≠ [])
    (h1 : ws = [] → Q (.ref t) s) (h2 : ws ≠ [] → Q (.ref s.heap.objs.size) { s with heap := s.heap.push { cls := .type "tuple", data := .seq (vs ++ ws).toArray } })
    (hsz : vs.length + ws.length ≤ sizeLine) : wpAny (model prog w) A (binaryOp .Add (.ref t) (.ref b)) Q E s := by
  obtain ⟨⟨cls, dd, data, sl⟩, ho, hc, n, hd⟩ := id ht
  obtain ⟨⟨cls2, dd2, data2, sl2⟩, ho2, hc2, n2, hd2⟩ := id hb
  simp only at hc hd hc2 hd2
  subst hc hd hc2 hd2
  have e : vs.toArray ++ ws.toArray = (vs ++ ws).toArray := by simp
  by_cases hw : ws = []
  · exact concat_meets ⟨_, ho, rfl⟩ ⟨_, ho2, rfl⟩ noFill_tuple_add seq_tuple_add PySem.F.slot_tuple_add PySem.F.entry_tuple_add (PySem.F.args_tuple_add_2 _ _)
      (tuple_addW1 t b vs.toArray ws.toArray n n2 dd dd2 sl sl2 (by simpa using hv) (by simp [hw])) ⟨ho, ho2, h1 hw⟩
  · refine concat_meets ⟨_, ho, rfl⟩ ⟨_, ho2, rfl⟩ noFill_tuple_add seq_tuple_add PySem.F.slot_tuple_add PySem.F.entry_tuple_add (PySem.F.args_tuple_add_2 _ _)
      (tuple_addW2 t b vs.toArray ws.toArray n n2 dd dd2 sl sl2 (by simpa using hv) (by simpa using hw) (by rw [List.size_toArray, List.size_toArray]; exact hsz)) ⟨ho, ho2, ?_⟩
    rw [e]
    exact h2 hw
def sIx (n d : Nat) : Option Int → Nat
  | none => d
  | some v => if v < 0 then (v + (n : Int)).toNat else min v.toNat n
theorem sIx_le (n d : Nat) (hd : d ≤ n) (o : Option Int) : sIx n d o ≤ n := by
  cases o with
  | none => exact hd
  | some v =>
    show (if v < 0 then (v + (n : Int)).toNat else min v.toNat n) ≤ n
    by_cases hv : v < 0
    · rw [if_pos hv]; omega
    · rw [if_neg hv]; exact Nat.min_le_right _ _
theorem clip_eq (v : Int) (n d : Nat) : (if v < 0 then max (v + (n : Int)) 0 else min v (n : Int)) = ((sIx n d (some v) : Nat) : Int) := by
  show (if v < 0 then max (v + (n : Int)) 0 else min v (n : Int)) = (((if v < 0 then (v + (n : Int)).toNat else min v.toNat n) : Nat) : Int)
  by_cases hv : v < 0
  · simp only [if_pos hv]; omega
  · simp only [if_neg hv]; omega
theorem adjust_gen (lo hi : Option Int) (n : Nat) : Builtin.Slice.sliceAdjust lo hi 1 (n : Int) = (((sIx n 0 lo : Nat) : Int), ((sIx n n hi : Nat) : Int)) := by
  have h1 : ¬ ((1 : Int) < 0) := by omega
  unfold Builtin.Slice.sliceAdjust
  simp only [h1, if_false]
  refine Prod.ext ?_ ?_
  · cases lo with
    | none => rfl
    | some v => exact clip_eq v n 0
  · cases hi with
    | none => rfl
    | some v => exact clip_eq v n n
theorem places_gen (i j : Nat) : Builtin.Slice.slicePlaces (i : Int) (j : Int) 1 = j - i := by
  unfold Builtin.Slice.slicePlaces
  have h1 : (1 : Int) > 0 := by omega
  simp only [h1, if_true, Int.ediv_one]
  split <;> omega
theorem slicePart_ {v : Value} {o : Option Int} {Q : Option Int → Shared → Prop} (p : IsPart v o) (h : Q o s) : wpAny (model prog w) A (Builtin.Slice.slicePartIndex v) Q E s := by
  cases p with
  | none => exact slicePart_none h
  | int i t => exact slicePart_int h
theorem sliceApplied_gen {sl : Addr} {vl vu : Value} {lo hi : Option Int} {n : Nat} {Q : Int × Int × Nat → Shared → Prop} (hs : s.heap.IsSliceOf sl vl vu .none) (pl : IsPart vl lo) (pu : IsPart vu hi)
    (h : Q (((sIx n 0 lo : Nat) : Int), 1, sIx n n hi - sIx n 0 lo) s) : wpAny (model prog w) A (Builtin.Slice.sliceApplied (.ref sl) (pure (n : Int))) Q E s := by
  obtain ⟨os, hos, hcs, hds⟩ := id hs
  unfold Builtin.Slice.sliceApplied Builtin.Slice.sliceFields
  refine wpAny_bind (wpAny_bind (wpAny_field hos hds (x := vl) rfl (wpAny_bind (wpAny_field hos hds (x := vu) rfl (wpAny_bind (wpAny_field hos hds (x := .none) rfl (wpAny_pure ?_)))))))
  refine wpAny_bind (slicePart_none ?_)
  show wpAny _ _ (if ((1 : Int) == 0) = true then _ else _) _ _ s
  rw [if_neg (by decide)]
  refine wpAny_bind (slicePart_ pl (wpAny_bind (slicePart_ pu (wpAny_bind (wpAny_pure ?_)))))
  show wpAny _ _ (match Builtin.Slice.sliceAdjust lo hi 1 (n : Int) with | (lo, hi) => pure (lo, (1 : Int), Builtin.Slice.slicePlaces lo hi 1)) _ _ s
  rw [adjust_gen lo hi n]
  show wpAny _ _ (pure (((sIx n 0 lo : Nat) : Int), (1 : Int), Builtin.Slice.slicePlaces ((sIx n 0 lo : Nat) : Int) ((sIx n n hi : Nat) : Int) 1)) _ _ s
  rw [places_gen]
  exact wpAny_pure h
theorem pick_gen (xs : Array Value) (i k : Nat) : ((List.range k).filterMap fun (m : Nat) => xs[((i : Int) + (m : Int) * 1).toNat]?).toArray = ((xs.toList.drop i).take k).toArray := by
  have e : (fun (m : Nat) => xs[((i : Int) + (m : Int) * 1).toNat]?) = fun m => xs[i + m]? := by
    funext m
    have : ((i : Int) + (m : Int) * 1).toNat = i + m := by omega
    rw [this]
  rw [e]
  have := pick_run xs i k
  rw [List.filterMap_map] at this
  have e2 : ((fun x => xs[x]?) ∘ fun x => i + x) = fun m => xs[i + m]? := rfl
  rw [e2] at this
  rw [this]
theorem getItem_tuple_cut {t sl : Addr} {items : Array Value} {vl vu : Value} {lo hi : Option Int} {Q : Value → Shared → Prop} (ht : IsTup s.heap t items) (hs : s.heap.IsSliceOf sl vl vu .none) (pl : IsPart vl lo) (pu : IsPart vu hi)
    (hw : ¬ (sIx items.size 0 lo = 0 ∧ sIx items.size items.size hi = items.size))
    (h : Q (.ref s.heap.objs.size) { s with heap := s.heap.push { cls := .type "tuple", data := .seq ((items.toList.drop (sIx items.size 0 lo)).take (sIx items.size items.size hi - sIx items.size 0 lo)).toArray } })
    (hsz : items.size ≤ sizeLine) : wpAny (model prog w) A (getItem (.ref t) (.ref sl)) Q E s := by
  have htake : sizeOk (.seq ((items.toList.drop (sIx items.size 0 lo)).take (sIx items.size items.size hi - sIx items.size 0 lo)).toArray) := by
    show ((items.toList.drop (sIx items.size 0 lo)).take (sIx items.size items.size hi - sIx items.size 0 lo)).toArray.size ≤ sizeLine
    rw [List.size_toArray, List.length_take, List.length_drop, Array.length_toList]
    omega
  have hj : sIx items.size items.size hi ≤ items.size := sIx_le _ _ (Nat.le_refl _) hi
  obtain ⟨os, hos, hcs, hds⟩ := id hs
  have hTs : s.TypeIs (.ref sl) "slice" := ⟨os, hos, hcs⟩
  unfold getItem
  try with_reducible refine wpAny_holding ?_
  first | refine wpAny_bind (wpAny_pure ?_) | skip
  refine wpAny_bind (wpAny_sequenceKey ht.typeIs (by decide) ?_)
  refine wpAny_bind (wpAny_callSpecial?_slot (name := Str.ofString "__getitem__") ht.typeIs PyProof.Rows.slot_tuple_getitem
    (wpAny_call_entry PyProof.Rows.slot_tuple_getitem ht.typeIs entry_tuple_getitem ?_ (args_tuple_getitem _ _)))
  show wpAny _ _ (Builtin.Tuple.tupleItemsOf (.ref t) >>= _) _ _ s
  refine wpAny_bind (tupleItemsOf_ ht ?_)
  refine wpAny_bind (wpAny_typeOf hTs ?_)
  rw [if_pos (by decide)]
  refine wpAny_bind (sliceApplied_gen hs pl pu ?_)
  have hno : ¬ ((((sIx items.size 0 lo : Nat) : Int) == 0 && (1 : Int) == 1 && (sIx items.size items.size hi - sIx items.size 0 lo) == items.size) = true) := by
    intro q
    rw [Bool.and_eq_true, Bool.and_eq_true] at q
    have q1 : ((sIx items.size 0 lo : Nat) : Int) = 0 := eq_of_beq q.1.1
    have q2 : sIx items.size items.size hi - sIx items.size 0 lo = items.size := eq_of_beq q.2
    exact hw ⟨by omega, by omega⟩
  show wpAny _ _ (if (((sIx items.size 0 lo : Nat) : Int) == 0 && (1 : Int) == 1 && (sIx items.size items.size hi - sIx items.size 0 lo) == items.size) = true then _ else _) _ _ s
  rw [if_neg hno, pick_gen]
  first
    | exact wpAny_bind (m := Builtin.Tuple.tupleExact _) (wpAny_newObj_type (wpAny_pure ⟨_, rfl, wpAny_pure h⟩) htake)
    | exact wpAny_bind (m := Builtin.Tuple.tupleExact _) (wpAny_newObj_type (wpAny_bind (wpAny_pure (wpAny_pure ⟨_, rfl, wpAny_pure h⟩))) htake)
    | exact wpAny_bind (wpAny_bind (m := Builtin.Tuple.tupleExact _) (wpAny_newObj_type (wpAny_pure (wpAny_pure ⟨_, rfl, wpAny_pure h⟩)) htake))
    | exact wpAny_bind (wpAny_bind (m := Builtin.Tuple.tupleExact _) (wpAny_newObj_type (wpAny_pure ⟨_, rfl, wpAny_pure h⟩) htake))
end
end HT
namespace L2
open PySem PySem.Spec PyProof.Rows
abbrev TO := St → Hp → (Option Int → Hp → Prop) → Prop
def PO (X : Cx) (e : Option Expr) (t : TO) : Prop :=
  ∀ (pins : List (Addr × Obj)) (s : Shared) (σ : St) (H : Hp) (Q : Option Int → Hp → Prop), Inv X pins σ H s → t σ H Q →
    wpAny (model X.prog X.w) X.A (evalPart e X.env) (fun u s' => ∃ o H', Inv X pins σ H' s' ∧ IsPart u o ∧ Q o H') X.xe s
def tNoPart : TO := fun _ H Q => Q none H
def tPart (t : TE) : TO := fun σ H Q => t σ H fun x H1 => ∃ i, x = .int i ∧ Q (some i) H1
section
variable {X : Cx} {e : Expr} {te : TE} {lo hi : Option Expr} {tl th : TO} {pos p2 : Pos}
theorem po_none : PO X none tNoPart := by
  intro pins s σ H Q I h
  rw [evalPart_none]
  exact wpAny_pure ⟨none, H, I, .none, h⟩
theorem po_some (h : PE X e te) : PO X (some e) (tPart te) := by
  intro pins s σ H Q I hw
  rw [evalPart_some]
  refine thn (h pins s σ H _ I hw) fun u s1 ⟨x, H1, I1, r1, q1⟩ => ?_
  obtain ⟨i, rfl, q⟩ := q1
  obtain ⟨t, rfl⟩ := r1
  exact ⟨some i, H1, I1, .int i t, q⟩
def SlR (X : Cx) (r : V → Option Int → Option Int → Hp → VK → Prop) : Prop :=
  ∀ (pins : List (Addr × Obj)) (s : Shared) (σ : St) (H : Hp) (x : V) (v vl vu : Value) (lo hi : Option Int) (sl : Addr) (Q : VK), Inv X pins σ H s → RelV x v → s.heap.IsSliceOf sl vl vu .none → IsPart vl lo → IsPart vu hi → r x lo hi H Q →
    ∃ T id, typeLookup (.type T) "__getitem__" = pure (some (.builtin id)) ∧ s.TypeIs v T ∧ wpAny (model X.prog X.w) X.A (getItem v (.ref sl)) (EP X pins σ Q) X.xe s
theorem SlR.or {r r' : V → Option Int → Option Int → Hp → VK → Prop} (h : SlR X r) (h' : SlR X r') : SlR X (fun x lo hi H Q => r x lo hi H Q ∨ r' x lo hi H Q) := by
  intro pins s σ H x v vl vu lo hi sl Q I rx hs pl pu q
  rcases q with q | q
  · exact h pins s σ H x v vl vu lo hi sl Q I rx hs pl pu q
  · exact h' pins s σ H x v vl vu lo hi sl Q I rx hs pl pu q
def tSl (r : V → Option Int → Option Int → Hp → VK → Prop) (te : TE) (tl th : TO) : TE := fun σ H Q => te σ H fun x H1 => tl σ H1 fun l H2 => th σ H2 fun u H3 => r x l u H3 Q
theorem pe_slice {r : V → Option Int → Option Int → Hp → VK → Prop} (hr : SlR X r) (he : PE X e te) (hl : PO X lo tl) (hu : PO X hi th) : PE X (.Subscript e (.Slice lo hi none p2) pos) (tSl r te tl th) := by
  intro pins s σ H Q I h
  refine Subscript_ (thn (he pins s σ H _ I h) fun v s1 ⟨x, H1, I1, r1, q1⟩ => ?_)
  refine wpAny_Slice (thn (hl pins s1 σ H1 _ I1 q1) fun vl s2 ⟨l, H2, I2, pl, q2⟩ => thn (hu pins s2 σ H2 _ I2 q2) fun vu s3 ⟨u, H3, I3, pu, q3⟩ => ?_)
  rw [evalPart_none]
  refine wpAny_pure ?_
  have I4 : Inv X pins σ H3 { s3 with heap := s3.heap.push { cls := .type "slice", data := .fields #[vl, vu, .none] } } := I3.kept (t' := s3.toks) fun b ob q => Heap.get?_push_of_some _ q
  obtain ⟨T, id, hT, ht, hg⟩ := hr pins { s3 with heap := s3.heap.push { cls := .type "slice", data := .fields #[vl, vu, .none] } } σ H3 x v vl vu l u s3.heap.objs.size Q I4 r1 (Heap.IsSliceOf.new ..) pl pu q3
  show wpAny (model X.prog X.w) X.A (subscriptTail e (.Slice lo hi none p2) v (.ref s3.heap.objs.size)) (EP X pins σ Q) X.xe { s3 with heap := s3.heap.push { cls := .type "slice", data := .fields #[vl, vu, .none] } }
  exact tail_any (ops := [.ref s3.heap.objs.size, v]) ht hT hg (by with_unfolding_all rfl)
def cutV (xs : List V) (lo hi : Option Int) : List V := (xs.drop (HT.sIx xs.length 0 lo)).take (HT.sIx xs.length xs.length hi - HT.sIx xs.length 0 lo)
theorem cutV_length (xs : List V) (lo hi : Option Int) : (cutV xs lo hi).length ≤ xs.length := by
  unfold cutV
  rw [List.length_take, List.length_drop]
  omega
def rSlT (K : PySem.W.Frag) : V → Option Int → Option Int → Hp → VK → Prop := fun x lo hi H Q => ∃ a xs, x = .ref a ∧ SqT K H a xs ∧
  ¬ (HT.sIx xs.length 0 lo = 0 ∧ HT.sIx xs.length xs.length hi = xs.length) ∧ ∀ p, H p = none → Q (.ref p) (upd H p (.tup (cutV xs lo hi)))
theorem sl_tup : SlR X (rSlT X.K) := by
  intro pins s σ H x v vl vu lo hi sl Q I rx hs pl pu h
  obtain ⟨a, xs, rfl, hx, hw, q⟩ := h
  cases rx
  obtain ⟨its, r, ht, hz⟩ := I.tuple hx
  have hlen : its.toArray.size = xs.length := by rw [List.size_toArray]; exact r.length.symm
  refine ⟨"tuple", _, PyProof.Rows.slot_tuple_getitem.lookup, ht.typeIs, ?_⟩
  refine HT.getItem_tuple_cut ht hs pl pu (by rw [hlen]; exact hw) ?_ (by rw [hlen]; exact hz)
  rw [hlen]
  refine ⟨.ref s.heap.objs.size, _, I.laid (t' := s.toks) (o := .tup (cutV xs lo hi)) (fun b ob q => Heap.get?_push_of_some _ q) (Nat.le_refl _) ?_, rfl, q _ (I.hok.fresh (Nat.le_refl _))⟩
  exact ⟨Nat.le_trans (cutV_length xs lo hi) hz, _, (r.drop (HT.sIx xs.length 0 lo)).take (HT.sIx xs.length xs.length hi - HT.sIx xs.length 0 lo), IsTup.new _ _⟩
def rCatT (K : PySem.W.Frag) : R2 := fun x y H Q => ∃ a b xs ys, x = .ref a ∧ y = .ref b ∧ SqT K H a xs ∧ SqT K H b ys ∧ xs ≠ [] ∧ xs.length + ys.length ≤ sizeLine ∧
  (ys = [] → Q (.ref a) H) ∧ (ys ≠ [] → ∀ p, H p = none → Q (.ref p) (upd H p (.tup (xs ++ ys))))
theorem Vals.nil_iff {xs : List V} {us : List Value} (r : Vals xs us) : us = [] ↔ xs = [] := by
  cases r with
  | nil => simp
  | cons _ _ => simp
theorem op_catT : OpR X (binaryOp .Add) (rCatT X.K) := by
  intro pins s σ H x y v u Q I rx ry h
  obtain ⟨a, b, xs, ys, rfl, rfl, ha, hb, hx, hz, q1, q2⟩ := h
  cases rx
  cases ry
  obtain ⟨its, r1, p1, _⟩ := I.tuple ha
  obtain ⟨its2, r2, p2, _⟩ := I.tuple hb
  refine HT.cat_tup p1 p2 (fun z => hx (r1.nil_iff.mp z)) (fun z => ⟨.ref a, H, I, rfl, q1 (r2.nil_iff.mp z)⟩) (fun z => ?_) (by rw [← r1.length, ← r2.length]; exact hz)
  refine ⟨.ref s.heap.objs.size, _, I.laid (t' := s.toks) (o := .tup (xs ++ ys)) (fun b ob q => Heap.get?_push_of_some _ q) (Nat.le_refl _) ?_, rfl, q2 (fun w => z (r2.nil_iff.mpr w)) _ (I.hok.fresh (Nat.le_refl _))⟩
  exact ⟨by rw [List.length_append]; exact hz, _, r1.append r2, IsTup.new _ _⟩
end
end L2
namespace L2
open PySem PySem.Spec PyProof.Rows
def ixN (n : Nat) (i : Int) : Option Nat := if 0 ≤ i then (if i < n then some i.toNat else none) else if -(n : Int) ≤ i then some (i + n).toNat else none
def atI {α : Type} (xs : List α) (i : Int) : Option α := (ixN xs.length i).bind fun j => xs[j]?
theorem ixN_seq {n : Nat} {i : Int} {j : Nat} (h : ixN n i = some j) : seqIndex? i n = some j ∧ j < n ∧ -(n : Int) ≤ i ∧ i < n := by
  unfold ixN at h
  by_cases h0 : 0 ≤ i
  · rw [if_pos h0] at h
    by_cases h1 : i < n
    · rw [if_pos h1] at h
      have e : i.toNat = j := Option.some.inj h
      exact ⟨by rw [seqIndex_of h0 h1, e], by omega, by omega, h1⟩
    · rw [if_neg h1] at h; cases h
  · rw [if_neg h0] at h
    by_cases h1 : -(n : Int) ≤ i
    · rw [if_pos h1] at h
      have e : (i + n).toNat = j := Option.some.inj h
      exact ⟨by rw [seqIndex_neg (by omega) h1, e], by omega, h1, by omega⟩
    · rw [if_neg h1] at h; cases h
theorem atI_get {α : Type} {xs : List α} {i : Int} {v : α} (h : atI xs i = some v) : ∃ j, seqIndex? i xs.length = some j ∧ xs[j]? = some v ∧ j < xs.length ∧ -(xs.length : Int) ≤ i ∧ i < xs.length := by
  unfold atI at h
  cases e : ixN xs.length i with
  | none => rw [e] at h; cases h
  | some j =>
    rw [e] at h
    obtain ⟨h1, h2, h3, h4⟩ := ixN_seq e
    exact ⟨j, h1, h, h2, h3, h4⟩
theorem atI_nat {α : Type} {xs : List α} {j : Nat} {v : α} (h : xs[j]? = some v) : atI xs (j : Int) = some v := by
  have hj : j < xs.length := (List.getElem?_eq_some_iff.mp h).1
  have e : ixN xs.length (j : Int) = some j := by
    unfold ixN
    rw [if_pos (by omega), if_pos (by omega)]; simp
  unfold atI; rw [e]; exact h
def PlainIx (b : Expr) : Prop := ∀ o i, subscripted b false o i = operate [o, i] (getItem o i)
def IxR (X : Cx) (r : R2) : Prop :=
  ∀ (value slice : Expr) (pins : List (Addr × Obj)) (s : Shared) (σ : St) (H : Hp) (x y : V) (v u : Value) (Q : VK), Inv X pins σ H s → RelV x v → RelV y u → r x y H Q →
    subscripted slice false v u = operate [v, u] (getItem v u) → wpAny (model X.prog X.w) X.A (subscriptTail value slice v u) (EP X pins σ Q) X.xe s
def MtR (X : Cx) (id : String) (r : V → List V → Hp → VK → Prop) : Prop :=
  ∀ (pins : List (Addr × Obj)) (s : Shared) (σ : St) (H : Hp) (x : V) (xs : List V) (v : Value) (us : List Value) (Q : VK), Inv X pins σ H s → RelV x v → Vals xs us → r x xs H Q →
    wpAny (model X.prog X.w) X.A (call (.builtin id) (v :: us)) (EP X pins σ Q) X.xe s
section
variable {X : Cx} {a b : Expr} {ta tb : TE} {pos : Pos}
theorem IxR.or {r r' : R2} (h : IxR X r) (h' : IxR X r') : IxR X (fun x y H Q => r x y H Q ∨ r' x y H Q) := by
  intro value slice pins s σ H x y v u Q I rx ry q hs
  rcases q with q | q
  · exact h value slice pins s σ H x y v u Q I rx ry q hs
  · exact h' value slice pins s σ H x y v u Q I rx ry q hs
theorem pe_ix {r : R2} (hr : IxR X r) (ha : PE X a ta) (hb : PE X b tb) (hs : PlainIx b) : PE X (.Subscript a b pos) (tOp r ta tb) := by
  intro pins s σ H Q I h
  exact Subscript_ (binT ha hb I h fun v u s2 x y H2 I2 rx ry q => hr a b pins s2 σ H2 x y v u Q I2 rx ry q (hs _ _))
def rIxL (K : PySem.W.Frag) : R2 := fun x y H Q => ∃ p xs i v, x = .ref p ∧ y = .int i ∧ SqL K H p xs ∧ atI xs i = some v ∧ Q v H
def rIxT (K : PySem.W.Frag) : R2 := fun x y H Q => ∃ p xs i v, x = .ref p ∧ y = .int i ∧ SqT K H p xs ∧ atI xs i = some v ∧ Q v H
def rIxS : R2 := fun x y H Q => ∃ z i c, x = .str z ∧ y = .int i ∧ z.length ≤ sizeLine ∧ atI z.cps.toList i = some c ∧ Q (.str ⟨#[c]⟩) H
theorem ix_list : IxR X (rIxL X.K) := by
  intro value slice pins s σ H x y v u Q I rx ry h hs
  obtain ⟨p, xs, i, z, rfl, rfl, hq, he, q⟩ := h
  cases rx
  obtain ⟨t, rfl⟩ := ry
  obtain ⟨its, r, pl, hz⟩ := I.list hq
  obtain ⟨j, h1, h2, h3, h4, h5⟩ := atI_get he
  obtain ⟨w, ew, rw'⟩ := r.get h2
  have hl := r.length
  have hn := line63
  have fin : EP X pins σ Q w s := ⟨z, H, I, rw', q⟩
  by_cases h0 : 0 ≤ i
  · have hj : i.toNat = j := by
      rw [seqIndex_of h0 h5] at h1
      exact Option.some.inj h1
    exact item_listR pl.isList h0 (by omega) (by rw [hj]; simpa using ew) fin hs
  · have hj : (i + (its.toArray.size : Int)).toNat = j := by
      rw [seqIndex_neg (by omega) h4] at h1
      rw [List.size_toArray, ← hl]
      exact Option.some.inj h1
    exact subscriptTail_builtinR (x := w) pl.isList.typeIs slot_list_getitem.lookup
      (wpAny_getItem_list_neg (Q := fun r s' => r = w ∧ EP X pins σ Q r s') pl.isList (by omega) (by rw [List.size_toArray] <;> omega) (by omega) (by rw [hj]; simpa using ew) ⟨rfl, fin⟩) hs
theorem ix_tup : IxR X (rIxT X.K) := by
  intro value slice pins s σ H x y v u Q I rx ry h hs
  obtain ⟨p, xs, i, z, rfl, rfl, hq, he, q⟩ := h
  cases rx
  obtain ⟨t, rfl⟩ := ry
  obtain ⟨its, r, pl, hz⟩ := I.tuple hq
  obtain ⟨j, h1, h2, h3, h4, h5⟩ := atI_get he
  obtain ⟨w, ew, rw'⟩ := r.get h2
  have hl := r.length
  have hn := line63
  have fin : EP X pins σ Q w s := ⟨z, H, I, rw', q⟩
  exact subscriptTail_builtinR (x := w) pl.typeIs slot_tuple_getitem.lookup
    (getItem_tuple (j := j) (Q := fun r s' => r = w ∧ EP X pins σ Q r s') pl (by omega) (by omega) (by rw [List.size_toArray, ← hl]; exact h1) (by simpa using ew) ⟨rfl, fin⟩) hs
theorem ix_str : IxR X rIxS := by
  intro value slice pins s σ H x y v u Q I rx ry h hs
  obtain ⟨z, i, c, rfl, rfl, hz, he, q⟩ := h
  obtain ⟨t, rfl⟩ := rx
  obtain ⟨t', rfl⟩ := ry
  obtain ⟨j, h1, h2, h3, h4, h5⟩ := atI_get he
  have hl : z.cps.toList.length = z.length := by simp [Str.length]
  rw [hl] at h1 h4 h5
  have hn := line63
  exact tail_any (typeIs_str s z t) slot_str_getitem.lookup (getItem_str (c := c) (by
    have e1 : decide (i < -(2 ^ 63 : Int)) = false := decide_eq_false (by omega)
    have e2 : decide (i ≥ 2 ^ 63) = false := decide_eq_false (by omega)
    rw [e1, e2, Bool.or_false]) (by rw [h1]; simpa using h2) ⟨.str ⟨#[c]⟩, H, I.tok _, ⟨_, rfl⟩, q⟩) hs
def rIx (K : PySem.W.Frag) : R2 := fun x y H Q => rIxL K x y H Q ∨ rIxT K x y H Q ∨ rIxS x y H Q
theorem ix_seq : IxR X (rIx X.K) := ix_list.or (ix_tup.or ix_str)
theorem mapSeq_set (its : List Value) (n j : Nat) (u : Value) : Obj.mapSeq (·.setIfInBounds j u) { cls := .type "list", data := .seq its.toArray n } = { cls := .type "list", data := .seq (its.set j u).toArray n } := by
  simp [Obj.mapSeq]
theorem Inv.lst {pins : List (Addr × Obj)} {σ : St} {H : Hp} {s : Shared} {p : Addr} {xs : List V} (I : Inv X pins σ H s) (h : H p = some (.lst xs)) :
    ∃ (its : List Value) (n : Nat), Vals xs its ∧ s.heap.get? p = some { cls := .type "list", data := .seq its.toArray n } ∧ xs.length ≤ sizeLine := by
  obtain ⟨z, its, n, r, e⟩ := I.hok p _ h
  exact ⟨its, n, r, e, z⟩
theorem Inv.lstUpd {pins : List (Addr × Obj)} {σ : St} {H : Hp} {s : Shared} {p : Addr} {xs ys : List V} {its its' : List Value} {n n' : Nat} {f : Obj → Obj} (I : Inv X pins σ H s) (h : H p = some (.lst xs))
    (ho : s.heap.get? p = some { cls := .type "list", data := .seq its.toArray n }) (hf : f { cls := .type "list", data := .seq its.toArray n } = { cls := .type "list", data := .seq its'.toArray n' }) (r : Vals ys its') (hz : ys.length ≤ sizeLine) (t : Nat) :
    Inv X pins σ (upd H p (.lst ys)) { s with heap := s.heap.update p f, toks := t } := by
  have e : (s.heap.update p f).get? p = some { cls := .type "list", data := .seq its'.toArray n' } := by
    rw [Heap.get?_update_self f ho (by rw [hf] <;> rfl), hf]
  refine I.write (x := p) (e := p) (by rw [h]; trivial) (.inl rfl) (fun b u hb q => (Heap.get?_update_other _ _ (Ne.symm hb)).trans q) ⟨_, e⟩ ?_
  exact ⟨hz, its', n', r, e⟩
def rSetL : V → V → V → Hp → (Hp → Prop) → Prop := fun o i v H Q => ∃ p xs k j, o = .ref p ∧ i = .int k ∧ H p = some (.lst xs) ∧ ixN xs.length k = some j ∧ Q (upd H p (.lst (xs.set j v)))
theorem set_list : PSet X rSetL := by
  intro pins s σ H o i v ov iv u Q I ro ri rv h
  obtain ⟨p, xs, k, j, rfl, rfl, hp, hj, q⟩ := h
  cases ro
  obtain ⟨t, rfl⟩ := ri
  obtain ⟨its, n, r, ho, hz⟩ := I.lst hp
  obtain ⟨h1, h2, h3, h4⟩ := ixN_seq hj
  have hl := r.length
  have hn := line63
  have I' : Inv X pins σ (upd H p (.lst (xs.set j v))) { s with heap := s.heap.update p (Obj.mapSeq (·.setIfInBounds j u)) } :=
    I.lstUpd hp ho (mapSeq_set its n j u) (r.set rv j) (by rw [List.length_set]; exact hz) s.toks
  by_cases h0 : 0 ≤ k
  · have hk : k.toNat = j := by
      rw [seqIndex_of h0 h4] at h1
      exact Option.some.inj h1
    exact PySem.W.ki_setAt ho h0 (by omega) (by rw [List.size_toArray, ← hl]; exact h4) (by rw [hk]; exact ⟨_, I', q⟩)
  · have hk : (k + (its.toArray.size : Int)).toNat = j := by
      rw [seqIndex_neg (by omega) h3] at h1
      rw [List.size_toArray, ← hl]
      exact Option.some.inj h1
    exact PySem.W.ki_setBack ho (by omega) (by rw [List.size_toArray, ← hl]; exact h3) (by omega) (by rw [hk]; exact ⟨_, I', q⟩)
theorem slice_bounds (lo hi : Option Int) (n : Nat) : (sliceBounds lo hi none n).1 = ((HT.sIx n 0 lo : Nat) : Int) ∧ (sliceBounds lo hi none n).2.1 = ((HT.sIx n n hi : Nat) : Int) ∧ (sliceBounds lo hi none n).2.2 = 1 := by
  refine ⟨?_, ?_, rfl⟩
  · cases lo with
    | none => simp [sliceBounds, HT.sIx]
    | some i =>
      simp only [sliceBounds, HT.sIx, Option.getD_none, show (1 : Int) > 0 by decide, if_true]
      by_cases h : i < 0
      · simp only [h, if_true] <;> omega
      · simp only [h, if_false] <;> omega
  · cases hi with
    | none => simp [sliceBounds, HT.sIx]
    | some i =>
      simp only [sliceBounds, HT.sIx, Option.getD_none, show (1 : Int) > 0 by decide, if_true]
      by_cases h : i < 0
      · simp only [h, if_true] <;> omega
      · simp only [h, if_false] <;> omega
theorem slicePick_cut (its : List Value) (lo hi : Option Int) : slicePick its.toArray lo hi none = ((its.drop (HT.sIx its.length 0 lo)).take (HT.sIx its.length its.length hi - HT.sIx its.length 0 lo)).toArray := by
  obtain ⟨h1, h2, h3⟩ := slice_bounds lo hi its.toArray.size
  unfold slicePick
  rw [h1, h2, h3]
  simp only [sliceRange_one, pick_run, List.size_toArray] <;> rfl
def rSlL (K : PySem.W.Frag) : V → Option Int → Option Int → Hp → VK → Prop := fun x lo hi H Q => ∃ a xs, x = .ref a ∧ SqL K H a xs ∧ ∀ p, H p = none → Q (.ref p) (upd H p (.lst (cutV xs lo hi)))
theorem sl_list : SlR X (rSlL X.K) := by
  intro pins s σ H x v vl vu lo hi sl Q I rx hs pl pu h
  obtain ⟨a, xs, rfl, hx, q⟩ := h
  cases rx
  obtain ⟨its, r, ht, hz⟩ := I.list hx
  have hlen := r.length
  refine ⟨"list", _, slot_list_getitem.lookup, ht.isList.typeIs, ?_⟩
  refine wpAny_getItem_list_slice ht.isList hs pl pu .none (by simp) ?_ (by rw [List.size_toArray] <;> omega)
  rw [slicePick_cut, ← hlen]
  refine ⟨.ref s.heap.objs.size, _, I.laid (t' := s.toks) (o := .lst (cutV xs lo hi)) (fun b ob q => Heap.get?_push_of_some _ q) (Nat.le_refl _) ?_, rfl, q _ (I.hok.fresh (Nat.le_refl _))⟩
  exact ⟨Nat.le_trans (cutV_length xs lo hi) hz, _, 0, (r.drop (HT.sIx xs.length 0 lo)).take (HT.sIx xs.length xs.length hi - HT.sIx xs.length 0 lo), Heap.get?_push_size _ rfl⟩
theorem call_len_seq : CallR X (.builtin "len") (fun xs H Q => ∃ p ys, xs = [.ref p] ∧ (SqL X.K H p ys ∨ SqT X.K H p ys) ∧ Q (.int ys.length) H) := by
  intro pins s σ H xs us Q I r h
  obtain ⟨p, ys, rfl, hq, q⟩ := h
  obtain ⟨u, rfl, rx⟩ := vals1 r
  cases rx
  have hn := line63
  rcases hq with hq | hq
  · obtain ⟨its, r', pl, hz⟩ := I.list hq
    have hlen := r'.length
    exact Calls.call_len_list pl.isList (by simp only [List.size_toArray] <;> omega) ⟨.int ys.length, H, I.tok _, ⟨s.toks + 1, by rw [List.size_toArray, hlen]⟩, q⟩
  · obtain ⟨its, r', pl, hz⟩ := I.tuple hq
    have hlen := r'.length
    exact len_tuple pl (by simp only [List.size_toArray] <;> omega) ⟨.int ys.length, H, I.tok _, ⟨s.toks + 1, by rw [List.size_toArray, hlen]⟩, q⟩
theorem call_len_str : CallR X (.builtin "len") (fun xs H Q => ∃ z, xs = [.str z] ∧ z.length ≤ sizeLine ∧ Q (.int z.length) H) := by
  intro pins s σ H xs us Q I r h
  obtain ⟨z, rfl, hz, q⟩ := h
  obtain ⟨u, rfl, t, rfl⟩ := vals1 r
  have hn := line63
  exact len_str (by omega) ⟨.int z.length, H, I.tok _, ⟨_, rfl⟩, q⟩
theorem CallR.or {f : Value} {r r' : List V → Hp → VK → Prop} (h : CallR X f r) (h' : CallR X f r') : CallR X f (fun xs H Q => r xs H Q ∨ r' xs H Q) := by
  intro pins s σ H xs us Q I rs q
  rcases q with q | q
  · exact h pins s σ H xs us Q I rs q
  · exact h' pins s σ H xs us Q I rs q
theorem call_list_of : CallR X (.type "list") (fun xs H Q => ∃ p ys, xs = [.ref p] ∧ (SqL X.K H p ys ∨ SqT X.K H p ys) ∧ ∀ l, H l = none → Q (.ref l) (upd H l (.lst ys))) := by
  intro pins s σ H xs us Q I r h
  obtain ⟨p, ys, rfl, hq, q⟩ := h
  obtain ⟨u, rfl, rx⟩ := vals1 r
  cases rx
  have fin : ∀ (its : List Value), Vals ys its → ys.length ≤ sizeLine → ∀ (h' : Heap) (c' : Nat), (∀ b o', s.heap.get? b = some o' → h'.get? b = some o') →
      h'.get? s.heap.objs.size = some { cls := .type "list", dict := none, data := .seq its.toArray c', slots := #[] } → EP X pins σ Q (.ref s.heap.objs.size) { s with heap := h' } := fun its r' hz h' c' kp e =>
    ⟨.ref s.heap.objs.size, _, I.laid (t' := s.toks) kp (Nat.le_refl _) (show ObjOk X.prog X.w _ h' _ (.lst ys) from ⟨hz, its, c', r', e⟩), rfl, q _ (I.hok.fresh (Nat.le_refl _))⟩
  rcases hq with hq | hq
  · obtain ⟨its, r', pl, hz⟩ := I.list hq
    have hlen := r'.length
    obtain ⟨o, ho, hc, n, hd⟩ := pl.isList
    exact call_list_seq p (.inl rfl) ho hc hd (fun h' c' kp e => fin its r' hz h' c' kp e) (by simp only [List.size_toArray] <;> omega)
  · obtain ⟨its, r', pl, hz⟩ := I.tuple hq
    have hlen := r'.length
    obtain ⟨o, ho, hc, n, hd⟩ := pl
    exact call_list_seq p (.inr rfl) ho hc hd (fun h' c' kp e => fin its r' hz h' c' kp e) (by simp only [List.size_toArray] <;> omega)
theorem call_tuple_of : CallR X (.type "tuple") (fun xs H Q => ∃ p ys, xs = [.ref p] ∧ ((SqL X.K H p ys ∧ ∀ l, H l = none → Q (.ref l) (upd H l (.tup ys))) ∨ (SqT X.K H p ys ∧ Q (.ref p) H))) := by
  intro pins s σ H xs us Q I r h
  obtain ⟨p, ys, rfl, h⟩ := h
  obtain ⟨u, rfl, rx⟩ := vals1 r
  cases rx
  rcases h with ⟨hq, q⟩ | ⟨hq, q⟩
  · obtain ⟨its, r', pl, hz⟩ := I.list hq
    have hlen := r'.length
    refine call_tuple_list pl.isList (fun h' kp => ?_) (by simp only [List.size_toArray] <;> omega)
    have I1 : Inv X pins σ H { s with heap := h' } := I.kept (t' := s.toks) kp
    have I2 : Inv X pins σ (upd H h'.objs.size (.tup ys)) { s with heap := h'.push { cls := .type "tuple", data := .seq its.toArray } } :=
      I1.laid (t' := s.toks) (fun b o e => Heap.get?_push_of_some _ e) (Nat.le_refl _) (show ObjOk X.prog X.w _ _ _ (.tup ys) from ⟨hz, its, r', IsTup.new _ _⟩)
    exact ⟨.ref h'.objs.size, _, I2, rfl, q _ (I1.hok.fresh (Nat.le_refl _))⟩
  · obtain ⟨its, r', pl, hz⟩ := I.tuple hq
    exact call_tuple_same pl ⟨.ref p, H, I, rfl, q⟩
def tyV (K : PySem.W.Frag) (T : String) (x : V) (H : Hp) : Prop := match x with
  | .str _ => T = "str"
  | .int _ => T = "int"
  | .ref p => (T = "list" ∧ ∃ xs, SqL K H p xs) ∨ (T = "tuple" ∧ ∃ o, K.lookup p = some o ∧ o.cls = .type "tuple" ∧ o.dict = none) ∨
      (T = "dict" ∧ ((∃ kvs, H p = some (.dK kvs)) ∨ ∃ kvs, H p = some (.dT kvs))) ∨ (T = "set" ∧ ∃ S n, H p = some (.set S n))
  | _ => False
theorem tyV_is {pins : List (Addr × Obj)} {σ : St} {H : Hp} {s : Shared} {T : String} {x : V} {v : Value} (I : Inv X pins σ H s) (r : RelV x v) (ty : tyV X.K T x H) :
    s.TypeIs v T ∧ ∀ a, v = .ref a → ∃ ob, s.heap.get? a = some ob ∧ ob.dict = none := by
  cases x with
  | str z =>
    obtain ⟨t, rfl⟩ := r
    cases (show T = "str" from ty)
    exact ⟨typeIs_str s z t, fun _ e => nomatch e⟩
  | int i =>
    obtain ⟨t, rfl⟩ := r
    cases (show T = "int" from ty)
    exact ⟨typeIs_int s i t, fun _ e => nomatch e⟩
  | ref p =>
    cases r
    rcases ty with ⟨rfl, xs, hq⟩ | ⟨rfl, o, hk, hc, hd⟩ | ⟨rfl, hk⟩ | ⟨rfl, S, n, hk⟩
    · obtain ⟨its, _, pl, _⟩ := I.list hq
      refine ⟨pl.isList.typeIs, fun a e => ?_⟩
      cases e
      obtain ⟨o, n, e, c, hd, _⟩ := pl
      exact ⟨o, e, hd⟩
    · refine ⟨⟨o, I.kIn p o hk, hc⟩, fun a e => ?_⟩
      cases e
      exact ⟨o, I.kIn _ o hk, hd⟩
    · have z : ∃ o, s.heap.get? p = some o ∧ o.ExactDict := by
        rcases hk with ⟨kvs, hk⟩ | ⟨kvs, hk⟩
        · obtain ⟨_, _, _, _, o, _, _, e, ex, _⟩ := I.hok p _ hk
          exact ⟨o, e, ex⟩
        · obtain ⟨_, _, _, _, o, _, _, e, ex, _⟩ := I.hok p _ hk
          exact ⟨o, e, ex⟩
      obtain ⟨o, e, ex⟩ := z
      refine ⟨⟨o, e, ex.1⟩, fun a e2 => ?_⟩
      cases e2
      exact ⟨o, e, ex.2.1⟩
    · obtain ⟨o, _, _, _, e, ex, _⟩ := I.hok p _ hk
      refine ⟨⟨o, e, ex.1⟩, fun a e2 => ?_⟩
      cases e2
      exact ⟨o, e, ex.2.1⟩
  | _ => exact False.elim ty
def tBM (K : PySem.W.Frag) (T : String) (r : V → List V → Hp → VK → Prop) (to : TE) (t : TA) : TE := fun σ H Q => to σ H fun x H1 => tyV K T x H1 ∧ t σ H1 fun xs H2 => r x xs H2 Q
variable {o e : Expr} {es : List Expr} {to : TE} {t : TA} {name : Str} {apos cpos : Pos} {T id : String} {r : V → List V → Hp → VK → Prop}
theorem pe_bm (pa : PlainAttrs T) (slot : Slot T name id) (hty : typeOf (.builtin id) = pure (.type "method_descriptor")) (hm : MtR X id r) (ho : PE X o to) (ha : PA X (e :: es) t)
    (hbase : attributeBase o name X.env (eval o X.env) = eval o X.env := by rfl)
    (hfew : ((backTo cpos (starEach (e :: es) X.env)).all (fun x => !x.1) && (backToKw cpos (keywordEach [] X.env)).all (fun x => x.1.isSome)
      && decide ((e :: es).length + ([] : List Keyword).length + (if ([] : List Keyword).isEmpty then 0 else 1) < 30)) = true := by rfl)
    (hline : (apos.endLine == cpos.line) = true := by rfl) (hs : starEach (e :: es) X.env = (false, eval e X.env) :: starEach es X.env := by rfl) (hplain : (backTo cpos (starEach es X.env)).any (·.1) = false := by rfl) :
    PE X (.Call (.Attribute o name apos) (e :: es) [] cpos) (tBM X.K T r to t) := by
  intro pins s σ H Q I h
  refine wpAny_Call_method_late hbase hfew hline rfl (thn (ho pins s σ H _ I h) fun v s1 ⟨x, H1, I1, r1, ty, q1⟩ => ?_)
  obtain ⟨h1, h2⟩ := tyV_is I1 r1 ty
  refine ⟨T, id, pa, slot, hty, h1, h2, ?_⟩
  have hA := ha cpos pins s1 σ H1 _ I1 q1
  rw [hs] at hA ⊢
  refine Calls.callWith_builtin (by show (false || (backTo cpos (starEach es X.env)).any (·.1)) = false; rw [hplain] <;> rfl) (Calls.evalArgs_plain ?_)
  exact thn hA fun us s2 ⟨vs, H2, I2, r2, q2⟩ => hm pins s2 σ H2 x vs v us Q I2 r1 r2 q2
end
end L2
namespace L2
open PySem PySem.Spec PyProof.Rows
def MtM (X : Cx) (id : String) (r : V → List V → Hp → VK → Prop) : Prop :=
  ∀ (pins : List (Addr × Obj)) (s : Shared) (σ : St) (H : Hp) (x : V) (xs : List V) (v : Value) (us : List Value) (Q : VK), Inv X pins σ H s → RelV x v → Vals xs us → r x xs H Q →
    wpAny (model X.prog X.w) X.A (call (.builtin id) (v :: us)) (EP X pins σ Q) X.xe s
theorem Vals.one : ∀ {x : V} {us : List Value}, Vals [x] us → ∃ u, us = [u] ∧ RelV x u
  | _, _, .cons r .nil => ⟨_, rfl, r⟩
theorem Vals.rep {xs : List V} {us : List Value} (h : Vals xs us) : ∀ k : Nat, Vals (List.replicate k xs).flatten (List.replicate k us).flatten
  | 0 => .nil
  | k + 1 => by
    rw [List.replicate_succ, List.replicate_succ, List.flatten_cons, List.flatten_cons]
    exact Vals.append h (Vals.rep h k)
theorem foldl_rep (its : List Value) : ∀ (k : Nat) (acc : List Value),
    List.foldl (fun x1 x2 => x1 ++ x2) acc.toArray (List.replicate k its.toArray) = (acc ++ (List.replicate k its).flatten).toArray
  | 0, acc => by simp
  | k + 1, acc => by
    have e : acc.toArray ++ its.toArray = (acc ++ its).toArray := by simp
    have e2 : (acc ++ its) ++ (List.replicate k its).flatten = acc ++ (List.replicate (k + 1) its).flatten := by
      rw [List.replicate_succ, List.flatten_cons, List.append_assoc]
    rw [← e2, ← foldl_rep its k (acc ++ its), ← e, List.replicate_succ, List.foldl_cons]
section
variable {X : Cx} {pins : List (Addr × Obj)} {σ : St} {H : Hp} {s : Shared} {l b : Addr} {xs ys zs : List V}
theorem Inv.lset {its its' : List Value} {n : Nat} {f : Array Value → Array Value} {t' : Nat} (I : Inv X pins σ H s) (hH : H l = some (.lst xs))
    (e : s.heap.get? l = some { cls := .type "list", data := .seq its.toArray n }) (hf : f its.toArray = its'.toArray) (hv : Vals ys its') (hz : ys.length ≤ sizeLine) :
    Inv X pins σ (upd H l (.lst ys)) { s with heap := s.heap.update l (Obj.mapSeq f), toks := t' } := by
  have q := PySem.IsL.update e f
  rw [hf] at q
  refine I.write (x := l) (e := l) (by rw [hH]; exact trivial) (.inl rfl) (fun b' u hb hu => (Heap.get?_update_other s.heap (Obj.mapSeq f) (Ne.symm hb)).trans hu) ⟨_, q⟩ ?_
  exact ⟨hz, its', _, hv, q⟩
theorem Inv.lnew {its : List Value} {t' : Nat} (I : Inv X pins σ H s) (hv : Vals ys its) (hz : ys.length ≤ sizeLine) :
    Inv X pins σ (upd H s.heap.objs.size (.lst ys)) { s with heap := s.heap.push { cls := .type "list", data := .seq its.toArray }, toks := t' } :=
  I.laid (fun _ _ q => Heap.get?_push_of_some _ q) (Nat.le_refl _) ⟨hz, its, 0, hv, Heap.get?_push_size _ rfl⟩
theorem Inv.fresh (I : Inv X pins σ H s) : H s.heap.objs.size = none := I.hok.fresh (Nat.le_refl _)
theorem Inv.lstM (I : Inv X pins σ H s) (hH : H l = some (.lst xs)) : xs.length ≤ sizeLine ∧ ∃ (its : List Value) (n : Nat), Vals xs its ∧ xs.length = its.length ∧ s.heap.get? l = some { cls := .type "list", data := .seq its.toArray n } := by
  obtain ⟨z, its, n, r, e⟩ := I.hok l _ hH
  exact ⟨z, its, n, r, r.length, e⟩
theorem notLongL {n : Nat} (h : n ≤ sizeLine) : Builtin.List.listTooLong n = false := by
  unfold Builtin.List.listTooLong
  exact decide_eq_false (by omega)
end
section
variable {X : Cx}
def rAppend : V → List V → Hp → VK → Prop := fun x vs H Q => ∃ l xs y, x = .ref l ∧ vs = [y] ∧ H l = some (.lst xs) ∧ xs.length < sizeLine ∧ Q .non (upd H l (.lst (xs ++ [y])))
theorem mt_append : MtM X "list.append" rAppend := by
  intro pins s σ H x vs v us Q I rx rv h
  obtain ⟨l, xs, y, rfl, rfl, hH, hz, q⟩ := h
  cases rx
  obtain ⟨u, rfl, ru⟩ := rv.one
  obtain ⟨z, its, n, r, hl, e⟩ := I.lstM hH
  refine call_meets F.slot_list_append ⟨_, e, rfl⟩ F.entry_list_append (F.args_list_append_2 _ _) (PySem.list_append l its.toArray n u (by rw [List.size_toArray]; omega)) ⟨e, ?_⟩
  refine ⟨.non, _, I.lset (its' := its ++ [u]) hH e (by simp) (r.append (.cons ru .nil)) ?_, rfl, q⟩
  rw [List.length_append, List.length_singleton]
  omega
theorem len_rep {α : Type} (xs : List α) (k : Nat) : (List.replicate k xs).flatten.length = k * xs.length := by
  induction k with
  | zero => simp
  | succ k ih => rw [List.replicate_succ, List.flatten_cons, List.length_append, ih, Nat.succ_mul, Nat.add_comm]
end
section
variable {prog : Program} {w : World} {A : Around} {E : Value → Shared → Prop} {s : Shared}
end
section
variable {X : Cx}
end
end L2
namespace L2
open PySem PySem.Spec PyProof.Rows
section
variable {κ : Type} [DecidableEq κ]
end
section
variable {P : Program} {w : World} {H : Hp} {h : Heap} {a : Addr}
end
section
variable {X : Cx} {pins : List (Addr × Obj)} {σ : St} {H : Hp} {s : Shared} {a : Addr} {y v : V} {u r : Value} {o : Option V} {A : Around} {E : Value → Shared → Prop}
end
section
variable {X : Cx} {pins : List (Addr × Obj)} {σ : St} {H : Hp} {s : Shared} {a : Addr} {kvs : List (Key × V)} {k : Key} {u : Value} {A : Around} {E : Value → Shared → Prop}
end
section
variable {X : Cx} {o i e value : Expr} {pos pos' tpos : Pos} {td ty tv : TE}
end
section
variable {X : Cx} {pos : Pos}
end
structure M1 (X : Cx) (o : Expr) (m : Str) (apos : Pos) (e : Expr) (cpos : Pos) : Prop where
  base : attributeBase o m X.env (eval o X.env) = eval o X.env
  few : ((backTo cpos (starEach [e] X.env)).all (fun x => !x.1) && (backToKw cpos (keywordEach [] X.env)).all (fun x => x.1.isSome)
    && decide (([e] : List Expr).length + ([] : List Keyword).length + (if ([] : List Keyword).isEmpty then 0 else 1) < 30)) = true
  line : (apos.endLine == cpos.line) = true
  trees : backTo cpos (starEach [e] X.env) = [(false, eval e X.env)]
structure M2 (X : Cx) (o : Expr) (m : Str) (apos : Pos) (e f : Expr) (cpos : Pos) : Prop where
  base : attributeBase o m X.env (eval o X.env) = eval o X.env
  few : ((backTo cpos (starEach [e, f] X.env)).all (fun x => !x.1) && (backToKw cpos (keywordEach [] X.env)).all (fun x => x.1.isSome)
    && decide (([e, f] : List Expr).length + ([] : List Keyword).length + (if ([] : List Keyword).isEmpty then 0 else 1) < 30)) = true
  line : (apos.endLine == cpos.line) = true
  trees : backTo cpos (starEach [e, f] X.env) = [(false, eval e X.env), (false, eval f X.env)]
section
variable {X : Cx} {pins : List (Addr × Obj)} {σ : St} {H : Hp} {s : Shared} {a : Addr} {y d : V} {u r : Value} {o : Option V} {A : Around} {E : Value → Shared → Prop}
end
section
variable {X : Cx} {o e f : Expr} {apos cpos : Pos} {td ty tx : TE}
end
section
variable {X : Cx} {pins : List (Addr × Obj)} {σ : St} {H : Hp} {s : Shared} {a : Addr} {kvs : List (Key × V)} {A : Around} {E : Value → Shared → Prop}
end
section
variable {X : Cx} {pins : List (Addr × Obj)} {σ : St} {H : Hp} {s : Shared} {a : Addr} {y : V} {u : Value} {A : Around} {E : Value → Shared → Prop}
end
end L2
namespace Att
open PySem PySem.W PySem.Calls PyProof.Rows
theorem ints_of_wellAll {P : Params} {h : Heap} : ∀ (ns : List Int) (vs : List Value), WellAll P h vs (ns.map WData.int) → IntsAre vs ns := by
  intro ns
  induction ns with
  | nil =>
    intro vs w
    rw [List.map_nil] at w
    cases w
    exact .nil
  | cons n ns ih =>
    intro vs w
    rw [List.map_cons] at w
    cases w with
    | cons a b =>
      cases a
      exact .cons _ _ (ih _ b)
theorem script_of {l : OpenLaw} {n : Nat} (hn : l.most = some n) {P : Params} {h : Heap} {args : List WData} {vals : List Value}
    (hpre : l.row.toRowW.claim.pre args = true) (hwl : WellAll P h vals args) :
    ∃ a vs ns, vals = [Value.ref a] ∧ args = [WData.list (ns.map WData.int)] ∧ h.get? a = some { cls := .type "list", data := .seq vs.toArray } ∧ IntsAre vs ns ∧ ns.length ≤ n := by
  have hsh : WShape.hasAll [] args [.list .int] = true := (pre_splitW hpre).1
  have hc : l.pre.holds [] { args := args } = true := (pre_splitW hpre).2
  obtain ⟨d, r, rfl, h1, h2⟩ := hasAllW_cons hsh
  obtain rfl := hasAllW_nil h2
  obtain ⟨xs, rfl, h3⟩ := hasW_list h1
  obtain ⟨ns, rfl⟩ := items_int h3
  have hlen : ns.length ≤ n := by
    unfold OpenLaw.pre at hc
    have h4 : (WTm.not (.lt (.lit (.int (n : Int))) (.len (.arg 0)))).holds [] { args := [.list (ns.map .int)] } = true := by
      have h4 := (holds_andW hc).1
      rw [hn] at h4
      exact h4
    have h5 := condW_of h4 (w_not (w_lt w_lit (w_len_list (w_arg rfl))))
    rw [List.length_map] at h5
    refine Nat.le_of_not_lt fun q => ?_
    have q' : (n : Int) < ((ns.length : Nat) : Int) := by omega
    first
      | (rw [decide_eq_true q'] at h5; exact absurd h5 (by decide))
      | (simp at h5; omega)
  cases hwl with
  | cons w1 w2 =>
    cases w2
    cases w1 with
    | list ho hall => exact ⟨_, _, ns, rfl, rfl, ho, ints_of_wellAll ns _ hall, hlen⟩
theorem post_true (l : OpenLaw) (args : List WData) : l.row.toRowW.claim.post args (.bool true) args = true :=
  postW_of (r := l.row.toRowW) (X := (true == true))
    (show WShape.has [] (.bool true) .bool = true by first | rfl | decide | simp [WShape.has, WShape.arms, WShape.armsAll])
    (show (WTm.eq .res (.lit (.bool true))).value [] { args := args, res := some (.bool true), after := args } = some (.bool (true == true)) from w_eq_bool (w_res rfl) w_lit) rfl
theorem attach_call {l : OpenLaw} {n : Nat} {q : Program} {loose : List Str} {XP : (Str → Option Value) → Heap → Prop} {YP : World → Heap → Prop} {d : DefRec}
    (hn : l.most = some n) (hdf : d.params.defaults = [])
    (call : ∀ (w : World) (s₀ s₁ : Shared) (mg mb : Str → Option Value) (fa : Addr) (o : Obj) (pm cd doc : Value) (a : Addr) (vs : List Value) (ns : List Int),
      Ground q loose [] XP w s₀ mg mb s₁.heap → YP w s₁.heap →
      s₁.heap.get? fa = some o → o.data = .func (docDef d.name d.params d.body d.scope pm cd doc) → s₁.heap.CodeRec cd d.name → mg d.name = some (.ref fa) →
      s₁.heap.get? a = some { cls := .type "list", data := .seq vs.toArray } → IntsAre vs ns → ns.length ≤ n → s₁.gens = #[] →
      codeAny (model l.prog w) callerA (.call (.ref fa) ⟨[.ref a], []⟩) (fun r s' => r = .ok (.ret (.bool true)) ∧ OldK s₁.heap s'.heap ∧ s'.os = s₁.os ∧ AllBare s'.gens) s₁) :
    WalkO q loose XP YP l.row.toRowW d [] (fun f vs => PySem.call f vs) := by
  intro w s₀ s₁ mg mb G Y fa o pm cd doc dV kV ho hd hcd hD hmg hg args vals as hpre hlay hrd hwl hlo
  obtain rfl : dV = .none := Dflts.none hD hdf
  obtain rfl : kV = .none := Dflts.noKw hD
  obtain ⟨a, vs, ns, rfl, rfl, hobj, hints, hlen⟩ := script_of hn hpre hwl
  refine enter_call (codeAny_mono (call w s₀ s₁ mg mb fa o pm cd doc a vs ns G Y ho (fd_plain hd) hcd hmg hobj hints hlen hg) fun r s' hq => ?_)
  obtain ⟨rfl, h2, h3, h4⟩ := hq
  exact ⟨.inl ⟨.bool true, .bool true, [], rfl, fun _ => rfl, .bool true, post_true l _, fun _ => ⟨List.Pairwise.nil, fun _ hm => (nomatch hm)⟩⟩, h2, h3, h4⟩
section
variable {prog : Program} {w : World} {A : Around} {E : Value → Shared → Prop} {s : Shared} {K : Frag}
def ledger (h : Heap) (L d : Addr) : List (Addr × Obj) := (List.range h.objs.size).filterMap fun a => if a = L ∨ a = d then none else (h.get? a).map fun o => (a, o)
end
end Att
namespace L2
open PySem PySem.Spec PyProof.Rows
theorem vals_ints : ∀ {vs : List Value} {ns : List Int}, IntsAre vs ns → Vals (ns.map V.int) vs
  | _, _, .nil => .nil
  | _, _, .cons n t h => .cons ⟨t, rfl⟩ (vals_ints h)
def Only (H : Hp) : Prop := ∀ b, H b = none ∨ ∃ o xs, H b = some (.frz o (.lst xs))
theorem law_call {P : Program} {w : World} {K : PySem.W.Frag} {mg mb : Str → Option Value} {CX : CXT} {k : Nat} {fa a : Addr} {fd : FuncData} {x : Str} {sp : Sp} {s₁ : Shared} {vs : List Value} {ns : List Int}
    (KX : K.In s₁.heap) (hns : s₁.heap.Ns mainGlobals mg) (hb : s₁.heap.Ns builtinsNs mb) (hbb : ∀ x : Str, x ≠ "__name__" → mb x = bootBuiltins x) (hlim : s₁.heap.NoLimit) (hg : s₁.gens = #[])
    (ha : s₁.heap.get? a = some { cls := .type "list", data := .seq vs.toArray }) (hi : IntsAre vs ns) (hl : ns.length ≤ sizeLine) (hr : Room k callerA)
    (F : ∀ base : Heap, K.In base → base.Ns mainGlobals mg → FnOk P w K mg base CX k fa fd [x] sp) (hbind : ∀ (s : Shared) (u : Value), BindsTo s fd ⟨[u], []⟩ [(x, u)])
    (hsp : ∀ H : Hp, Only H → SqL K H a (ns.map V.int) → sp [.ref a] H (fun v _ => v = .bl true) fun _ _ _ => False)
    (hCX : ∀ H e s', CX [] H s₁ (fun _ _ _ => False) e s' → False) :
    codeAny (model P w) callerA (.call (.ref fa) ⟨[.ref a], []⟩) (fun r s' => r = .ok (.ret (.bool true)) ∧ OldK s₁.heap s'.heap ∧ s'.os = s₁.os ∧ AllBare s'.gens) s₁ := by
  have rv := vals_ints hi
  have lenV := hi.length
  -- from an abstract heap in which nothing but the script may be tracked
  have core : ∀ H : Hp, Only H → SqL K H a (ns.map V.int) → HOk P w H s₁.heap → (∀ b, H b ≠ none → b = a) → (H a ≠ none → K.lookup a = none) →
      codeAny (model P w) callerA (.call (.ref fa) ⟨[.ref a], []⟩) (fun r s' => r = .ok (.ret (.bool true)) ∧ OldK s₁.heap s'.heap ∧ s'.os = s₁.os ∧ AllBare s'.gens) s₁ := by
    intro H hO hS hok hA hK
    have base_of : ∀ {b : Addr} {o : Obj}, s₁.heap.get? b = some o → H b = none → (hidT s₁.heap H).get? b = some o := fun e n => hidT_get e n
    have noA : ∀ {b : Addr} {o : Obj} {es : Array DictEntry} {ep : Nat}, s₁.heap.get? b = some o → o.data = .dict es ep → H b = none := fun {b o es ep} e d => by
      cases q : H b with
      | none => rfl
      | some u =>
        have e' : b = a := hA b (by rw [q]; simp)
        subst e'
        rw [ha] at e; cases e
        have d' : Data.seq vs.toArray _ = Data.dict es ep := d
        cases d'
    have nsK : ∀ {b : Addr} {m : Str → Option Value}, s₁.heap.Ns b m → (hidT s₁.heap H).Ns b m := fun {b m} ⟨o, es, ep, e, d, r⟩ => ⟨o, es, ep, base_of e (noA e d), d, r⟩
    have hKb : K.In (hidT s₁.heap H) := fun b o e => base_of (KX b o e) (by
      cases q : H b with
      | none => rfl
      | some u =>
        have e' : b = a := hA b (by rw [q]; simp)
        subst e'
        rw [hK (by rw [q]; simp)] at e; cases e)
    have hM : Mod K mg (hidT s₁.heap H) := ⟨hKb, nsK hns, ⟨mb, nsK hb, hbb⟩, let ⟨mc, h1, h2⟩ := hlim; ⟨mc, nsK h1, h2⟩⟩
    have e0 : Env0 P w K mg (hidT s₁.heap H) callerA [] s₁ H := ⟨rfl, hM, fun b o e => of_hidT e, Nat.le_of_eq (hidT_size _ _), trivial, fun b hb => absurd (show b ∈ ([] : List Addr) from hb) (by simp), hok, .of_eq hg⟩
    refine codeAny_mono ((F _ hKb (nsK hns)).run callerA [] s₁ H ⟨[.ref a], []⟩ [.ref a] [.ref a] _ _ hr e0 (hbind s₁ (.ref a)) (.cons rfl .nil) (hsp H hO hS)) fun r s' h => ?_
    cases r with
    | error e => exact (hCX H e s' h).elim
    | ok fl =>
      cases fl with
      | next => exact False.elim h
      | brk => exact False.elim h
      | cont => exact False.elim h
      | ret u =>
        obtain ⟨v, H', os, bare, un, hok', r', q⟩ := h
        have q' : v = .bl true := q
        subst q'
        obtain rfl : u = Value.bool true := r'
        refine ⟨rfl, OldK.of_keep fun b o e => ?_, os, bare⟩
        cases q : H b with
        | none => exact un.keep b o e q (by intro z; exact absurd (show b ∈ ([] : List Addr) from z) (by simp)) (by simp)
        | some u =>
          rcases hO b with z | ⟨ob, xs, z⟩
          · rw [q] at z; cases z
          · have z2 := un.frzs b ob _ z
            obtain ⟨e1, _⟩ := hok b _ z
            obtain ⟨e2, _⟩ := hok' b _ z2
            rw [e] at e1; cases e1
            exact e2
  cases hk : K.lookup a with
  | some o =>
    -- the script is one of the module's own objects
    have e := KX a o hk
    rw [ha] at e
    cases e
    refine core (fun _ => none) (fun _ => .inl rfl) (.inr ⟨_, vs.toArray, _, hk, rfl, rfl, rfl, by rw [List.size_toArray, lenV]; exact hl, by simpa using rv⟩) (fun b u z => by have z' : (none : Option HO) = some u := z; cases z') (fun b z => absurd rfl z) fun z => absurd rfl z
  | none =>
    refine core (fun b => if b = a then some (.frz { cls := .type "list", data := .seq vs.toArray } (.lst (ns.map V.int))) else none) (fun b => ?_) (.inl (.inr ⟨{ cls := .type "list", data := .seq vs.toArray }, if_pos rfl⟩)) (fun b u z => ?_) (fun b z => ?_) fun _ => hk
    · by_cases hb : b = a
      · exact .inr ⟨_, _, if_pos hb⟩
      · exact .inl (if_neg hb)
    · by_cases hb : b = a
      · have z' := (if_pos hb).symm.trans z
        cases z'
        subst hb
        exact ⟨ha, by rw [List.length_map]; exact hl, vs, _, rv, ha⟩
      · have z' := (if_neg hb).symm.trans z
        cases z'
    · by_cases hb : b = a
      · exact hb
      · exact absurd (if_neg hb) z
end L2
namespace L2
open PySem PySem.Spec PyProof.Rows
theorem walk_of {l : PySem.W.OpenLaw} {n k : Nat} {q : Program} {loose : List Str} {XP : (Str → Option Value) → Heap → Prop} {YP : World → Heap → Prop} {d : DefRec} {K : Params → PySem.W.Frag} {CX : World → CXT} {sp : World → Sp} {x : Str}
    (hn : l.most = some n) (hn2 : n ≤ sizeLine) (hdf : d.params.defaults = []) (hr : Room k callerA)
    (hY : ∀ (w : World) (h : Heap), YP w h → (K w.params).In h)
    (F : ∀ (w : World) (mg : Str → Option Value) (fa : Addr) (h : Heap), (K w.params).In h → h.Ns mainGlobals mg → mg d.name = some (.ref fa) →
      ∃ fd : FuncData, (∀ (s : Shared) (u : Value), BindsTo s fd ⟨[u], []⟩ [(x, u)]) ∧
        ∀ base : Heap, (K w.params).In base → base.Ns mainGlobals mg → FnOk l.prog w (K w.params) mg base (CX w) k fa fd [x] (sp w))
    (hsp : ∀ (w : World) (H : Hp) (a : Addr) (ns : List Int), ns.length ≤ n → Only H → SqL (K w.params) H a (ns.map V.int) → sp w [.ref a] H (fun v _ => v = .bl true) fun _ _ _ => False)
    (hCX : ∀ (w : World) (H : Hp) (s : Shared) (e : Value) (s' : Shared), CX w [] H s (fun _ _ _ => False) e s' → False) :
    PySem.W.WalkO q loose XP YP l.row.toRowW d [] (fun f vs => PySem.call f vs) := by
  refine Att.attach_call hn hdf fun w s₀ s₁ mg mb fa o pm cd doc a vs ns G Y ho hd hcd hmg hobj hints hlen hg => ?_
  have KX := hY w _ Y
  obtain ⟨fd, hb, hF⟩ := F w mg fa _ KX G.T.g hmg
  exact law_call KX G.T.g G.T.b G.T.builtins G.T.nolimit hg hobj hints (Nat.le_trans hlen hn2) hr hF hb (fun H hO hS => hsp w H a ns hlen hO hS) fun H e s' => hCX w H s₁ e s'
theorem walk_ofK {l : PySem.W.OpenLaw} {n k : Nat} {q : Program} {loose : List Str} {XP : (Str → Option Value) → Heap → Prop} {YP : World → Heap → Prop} {d : DefRec} {K : Params → PySem.W.Frag} {CX : CXT} {sp : PySem.W.Frag → Sp} {x : Str}
    (hn : l.most = some n) (hn2 : n ≤ sizeLine) (hdf : d.params.defaults = []) (hr : Room k callerA)
    (hY : ∀ (w : World) (h : Heap), YP w h → (K w.params).In h)
    (F : ∀ (w : World) (mg : Str → Option Value) (fa : Addr) (h : Heap), (K w.params).In h → h.Ns mainGlobals mg → mg d.name = some (.ref fa) →
      ∃ fd : FuncData, (∀ (s : Shared) (u : Value), BindsTo s fd ⟨[u], []⟩ [(x, u)]) ∧
        ∀ base : Heap, (K w.params).In base → base.Ns mainGlobals mg → FnOk l.prog w (K w.params) mg base CX k fa fd [x] (sp (K w.params)))
    (hsp : ∀ (K : PySem.W.Frag) (H : Hp) (a : Addr) (ns : List Int), ns.length ≤ n → Only H → SqL K H a (ns.map V.int) → sp K [.ref a] H (fun v _ => v = .bl true) fun _ _ _ => False)
    (hCX : ∀ (H : Hp) (s : Shared) (e : Value) (s' : Shared), CX [] H s (fun _ _ _ => False) e s' → False) :
    PySem.W.WalkO q loose XP YP l.row.toRowW d [] (fun f vs => PySem.call f vs) :=
  walk_of (K := K) (CX := fun _ => CX) (sp := fun w => sp (K w.params)) hn hn2 hdf hr hY F (fun w H a ns h1 h2 h3 => hsp (K w.params) H a ns h1 h2 h3) fun _ H s e s' => hCX H s e s'
end L2
namespace L2
open PySem PySem.Spec PyProof.Rows
def defArgs (s : Stmt) : Arguments := match s with
  | .FunctionDef _ a _ _ _ _ _ _ _ _ => a
  | _ => { posonlyargs := [], args := [], vararg := none, kwonlyargs := [], kw_defaults := [], kwarg := none, defaults := [] }
def defBody (s : Stmt) : List Stmt := match s with
  | .FunctionDef _ _ b _ _ _ _ _ _ _ => b
  | _ => []
def defScope (s : Stmt) : Scope := match s with
  | .FunctionDef _ _ _ _ _ _ sc _ _ _ => sc
  | _ => { kind := .function, names := [], isGenerator := false, isCoroutine := false }
abbrev CX0 : CXT := fun _ _ _ _ _ _ => False
abbrev E0 : XK := fun _ _ _ => False
theorem pass0 {X : Cx} : Passes CX0 X E0 := fun _ _ _ _ _ _ _ h => h.elim
structure Fun (K : PySem.W.Frag) (x qual : Str) (st : Stmt) (f : Addr) (fd : FuncData) : Prop where
  ex : ∃ (oc : Value) (od : Option Addr) (kV doc pm : Value) (an : Option Addr) (cdv ct : Value) (osl : Array (Option Value)),
    fd = PySem.W.fnOf x qual (defArgs st) (defBody st) (defScope st) .none kV doc pm an cdv ct ∧ K.lookup f = some ⟨oc, od, .func fd, osl⟩ ∧ PySem.W.codeIn K cdv qual = true
  kp : PySem.W.keepIn K (.ref f) = true
section
variable {P : Program} {w : World} {K : PySem.W.Frag} {mg : Str → Option Value} {base : Heap}
theorem Fun.ok {x qual : Str} {st : Stmt} {f : Addr} {fd : FuncData} {N ps : List Str} {k : Nat} {sp : Sp} (F : Fun K x qual st f fd) (S : FnScope N ps (defScope st)) (len : ∀ vs H Q E, sp vs H Q E → vs.length = ps.length)
    (hbody : ∀ (cdv : Value) (A : Around) (outer : List Env) (s : Shared) (H : Hp) (vs : List V) (Q : VK) (E : XK), Room k (A.deeper (envOfC qual (defScope st) s.heap.objs.size f cdv)) → sp vs H Q E →
      ∃ t, PSs (cxOf CX0 P w K mg base N qual (defScope st) f cdv A outer s H E).nox (defBody st) t ∧ t { nx := fun _ H' => Q .non H', rt := Q } (start N vs) H) : FnOk P w K mg base CX0 (k + 1) f fd ps sp := by
  obtain ⟨oc, od, kV, doc, pm, an, cdv, ct, osl, rfl, lk, hcd⟩ := F.ex
  refine fn_of lk hcd S len fun A outer s H vs Q E hr hsp => ?_
  obtain ⟨t, h, q⟩ := hbody cdv A outer s H vs Q E hr hsp
  exact ⟨t, h.nox, q⟩
theorem Fun.binds {x qual : Str} {st : Stmt} {f : Addr} {fd : FuncData} {ps : List Str} (F : Fun K x qual st f fd)
    (h : ∀ (kV doc pm : Value) (an : Option Addr) (cdv ct : Value) (us : List Value), us.length = ps.length → bindArgs (PySem.W.fnOf x qual (defArgs st) (defBody st) (defScope st) .none kV doc pm an cdv ct) ⟨us, []⟩ = pure (ps.zip us)) : Binds K fd ps [] := by
  obtain ⟨oc, od, kV, doc, pm, an, cdv, ct, osl, rfl, lk, hcd⟩ := F.ex
  exact .all (h kV doc pm an cdv ct)
theorem fun_mk {x qual : Str} {st : Stmt} {f : Addr} {oc : Value} {od an : Option Addr} {osl : Array (Option Value)} {kV doc pm cdv ct : Value} (l : K.lookup f = some ⟨oc, od, .func (PySem.W.fnOf x qual (defArgs st) (defBody st) (defScope st) .none kV doc pm an cdv ct), osl⟩)
    (c : PySem.W.codeIn K cdv qual = true) (k : PySem.W.keepIn K (.ref f) = true) : Fun K x qual st f (PySem.W.fnOf x qual (defArgs st) (defBody st) (defScope st) .none kV doc pm an cdv ct) := ⟨⟨oc, od, kV, doc, pm, an, cdv, ct, osl, rfl, l, c⟩, k⟩
end
theorem small1000 {n : Nat} (h : n ≤ 1000) : n < sizeLine := Nat.lt_of_le_of_lt h (by decide)
section
variable {X : Cx}
theorem pv (i : Nat) {x : Str} {pos : Pos} (hN : X.N[i]? = some x := by rfl) (hv : Vis X.env.scope x := by first | exact Or.inl rfl | exact Or.inr (Or.inl rfl) | exact Or.inr (Or.inr rfl)) (hd : (x == ("__debug__" : Str)) = false := by decide)
    (hcd : (x == ("__classdict__" : Str)) = false := by decide) : PE X (.Name x pos) (tVar i) := pe_var hN hv hd hcd
end
theorem iteF {A B : Prop} (h : B) : if false = true then A else B := by
  rw [if_neg Bool.false_ne_true]
  exact h
theorem iteT {A B : Prop} (h : A) : if true = true then A else B := by
  rw [if_pos rfl]
  exact h
def Same (H H' : Hp) : Prop := ∀ b o, H b = some o → H' b = some o
theorem Same.trans {H H1 H2 : Hp} (a : Same H H1) (b : Same H1 H2) : Same H H2 := fun c o h => b c o (a c o h)
theorem Same.free {H H' : Hp} (e : Same H H') {l : Addr} (h : H' l = Option.none) : H l = Option.none := by
  cases q : H l with
  | none => rfl
  | some o =>
    rw [e l o q] at h
    cases h
theorem Same.seq {K : PySem.W.Frag} {H H' : Hp} {a : Addr} {xs : List V} (e : Same H H') (h : SqL K H a xs) : SqL K H' a xs := by
  rcases h with (h | ⟨o, h⟩) | h
  · exact .inl (.inl (e _ _ h))
  · exact .inl (.inr ⟨o, e _ _ h⟩)
  · exact .inr h
end L2
namespace L2
open PySem PySem.Spec PyProof.Rows
section
variable {κ : Type} [DecidableEq κ]
end
end L2
set_option Elab.async false
set_option linter.all false
set_option maxRecDepth 100000
set_option maxHeartbeats 4000000
namespace FL
open PySem PySem.Spec PyProof.Rows L2
abbrev St := L2.St
inductive D where
  | non
  | bl (b : Bool)
  | int (i : Int)
  | str (x : Str)
  | tup (ds : List D)
  | lst (ds : List D)
  deriving Inhabited
mutual
def Has (K : PySem.W.Frag) (H : Hp) : D → V → Prop
  | .non, v => v = .non
  | .bl b, v => v = .bl b
  | .int i, v => v = .int i
  | .str x, v => v = .str x
  | .tup ds, v => ∃ a xs, v = .ref a ∧ SqT K H a xs ∧ HasL K H ds xs
  | .lst ds, v => ∃ a xs, v = .ref a ∧ SqL K H a xs ∧ HasL K H ds xs
def HasL (K : PySem.W.Frag) (H : Hp) : List D → List V → Prop
  | [], xs => xs = []
  | d :: ds, xs => ∃ x r, xs = x :: r ∧ Has K H d x ∧ HasL K H ds r
end
theorem sameR {H : Hp} : Same H H := fun _ _ e => e
theorem sameT {K : PySem.W.Frag} {H H' : Hp} {a : Addr} {xs : List V} (e : Same H H') (h : SqT K H a xs) : SqT K H' a xs := by
  rcases h with (h | ⟨o, h⟩) | h
  · exact .inl (.inl (e _ _ h))
  · exact .inl (.inr ⟨o, e _ _ h⟩)
  · exact .inr h
section
variable {K : PySem.W.Frag} {H H' : Hp}
mutual
theorem Has.mono (s : Same H H') : ∀ {d : D} {v : V}, Has K H d v → Has K H' d v
  | .non, _, h => by unfold Has at h ⊢; exact h
  | .bl _, _, h => by unfold Has at h ⊢; exact h
  | .int _, _, h => by unfold Has at h ⊢; exact h
  | .str _, _, h => by unfold Has at h ⊢; exact h
  | .tup ds, v, h => by
    unfold Has at h ⊢
    obtain ⟨a, xs, e, q, l⟩ := h
    exact ⟨a, xs, e, sameT s q, HasL.mono s l⟩
  | .lst ds, v, h => by
    unfold Has at h ⊢
    obtain ⟨a, xs, e, q, l⟩ := h
    exact ⟨a, xs, e, s.seq q, HasL.mono s l⟩
theorem HasL.mono (s : Same H H') : ∀ {ds : List D} {xs : List V}, HasL K H ds xs → HasL K H' ds xs
  | [], _, h => by unfold HasL at h ⊢; exact h
  | d :: ds, xs, h => by
    unfold HasL at h ⊢
    obtain ⟨x, r, e, h1, h2⟩ := h
    exact ⟨x, r, e, Has.mono s h1, HasL.mono s h2⟩
end
theorem Has.non_iff {v : V} : Has K H .non v ↔ v = .non := by unfold Has; rfl
theorem Has.bl_iff {b : Bool} {v : V} : Has K H (.bl b) v ↔ v = .bl b := by unfold Has; rfl
theorem Has.int_iff {i : Int} {v : V} : Has K H (.int i) v ↔ v = .int i := by unfold Has; rfl
theorem Has.str_iff {x : Str} {v : V} : Has K H (.str x) v ↔ v = .str x := by unfold Has; rfl
theorem Has.tup_iff {ds : List D} {v : V} : Has K H (.tup ds) v ↔ ∃ a xs, v = .ref a ∧ SqT K H a xs ∧ HasL K H ds xs := by
  constructor
  · intro h; unfold Has at h; exact h
  · intro h; unfold Has; exact h
theorem Has.lst_iff {ds : List D} {v : V} : Has K H (.lst ds) v ↔ ∃ a xs, v = .ref a ∧ SqL K H a xs ∧ HasL K H ds xs := by
  constructor
  · intro h; unfold Has at h; exact h
  · intro h; unfold Has; exact h
theorem HasL.nil_iff {xs : List V} : HasL K H [] xs ↔ xs = [] := by unfold HasL; rfl
theorem HasL.cons_iff {d : D} {ds : List D} {xs : List V} : HasL K H (d :: ds) xs ↔ ∃ x r, xs = x :: r ∧ Has K H d x ∧ HasL K H ds r := by
  constructor
  · intro h; unfold HasL at h; exact h
  · intro h; unfold HasL; exact h
theorem HasL.nil : HasL K H [] [] := HasL.nil_iff.mpr rfl
theorem HasL.cons {d : D} {ds : List D} {x : V} {xs : List V} (h : Has K H d x) (t : HasL K H ds xs) : HasL K H (d :: ds) (x :: xs) := HasL.cons_iff.mpr ⟨x, xs, rfl, h, t⟩
theorem HasL.length : ∀ {ds : List D} {xs : List V}, HasL K H ds xs → xs.length = ds.length
  | [], _, h => by rw [HasL.nil_iff] at h; subst h; rfl
  | d :: ds, xs, h => by
    obtain ⟨x, r, e, _, h2⟩ := HasL.cons_iff.mp h
    subst e
    simp [HasL.length h2]
theorem HasL.get : ∀ {ds : List D} {xs : List V} {i : Nat} {d : D}, HasL K H ds xs → ds[i]? = some d → ∃ v, xs[i]? = some v ∧ Has K H d v
  | [], _, _, _, _, e => by simp at e
  | d :: ds, xs, i, d', h, e => by
    obtain ⟨x, r, e', h1, h2⟩ := HasL.cons_iff.mp h
    subst e'
    cases i with
    | zero => simp at e; subst e; exact ⟨x, rfl, h1⟩
    | succ i =>
      obtain ⟨v, q1, q2⟩ := HasL.get (i := i) (d := d') h2 (by simpa using e)
      exact ⟨v, by simpa using q1, q2⟩
theorem HasL.append : ∀ {ds es : List D} {xs ys : List V}, HasL K H ds xs → HasL K H es ys → HasL K H (ds ++ es) (xs ++ ys)
  | [], _, _, _, h, h' => by rw [HasL.nil_iff] at h; subst h; exact h'
  | d :: ds, es, xs, ys, h, h' => by
    obtain ⟨x, r, e, h1, h2⟩ := HasL.cons_iff.mp h
    subst e
    exact .cons h1 (HasL.append h2 h')
theorem HasL.drop : ∀ {ds : List D} {xs : List V} (n : Nat), HasL K H ds xs → HasL K H (ds.drop n) (xs.drop n)
  | _, _, 0, h => by simpa using h
  | [], _, n + 1, h => by rw [HasL.nil_iff] at h; subst h; simpa using HasL.nil
  | d :: ds, xs, n + 1, h => by
    obtain ⟨x, r, e, h1, h2⟩ := HasL.cons_iff.mp h
    subst e
    exact HasL.drop n h2
theorem HasL.take : ∀ {ds : List D} {xs : List V} (n : Nat), HasL K H ds xs → HasL K H (ds.take n) (xs.take n)
  | _, _, 0, h => by simpa using HasL.nil
  | [], _, n + 1, h => by rw [HasL.nil_iff] at h; subst h; simpa using HasL.nil
  | d :: ds, xs, n + 1, h => by
    obtain ⟨x, r, e, h1, h2⟩ := HasL.cons_iff.mp h
    subst e
    exact .cons h1 (HasL.take n h2)
theorem HasL.set {d : D} {x : V} (hx : Has K H d x) : ∀ {ds : List D} {xs : List V} (i : Nat), HasL K H ds xs → HasL K H (ds.set i d) (xs.set i x)
  | [], _, _, h => by rw [HasL.nil_iff] at h; subst h; exact HasL.nil
  | e :: ds, xs, i, h => by
    obtain ⟨y, r, e, h1, h2⟩ := HasL.cons_iff.mp h
    subst e
    cases i with
    | zero => exact .cons hx h2
    | succ i => exact .cons h1 (HasL.set hx i h2)
theorem HasL.ints : ∀ (ns : List Int), HasL K H (ns.map D.int) (ns.map V.int)
  | [] => .nil
  | n :: ns => .cons (Has.int_iff.mpr rfl) (HasL.ints ns)
end
inductive Slot where
  | no
  | fr (d : D)
  | ol (ds : List D)
  | oT (kvs : List (List Key × D))
  | oK (kvs : List (Key × D))
  deriving Inhabited
def Slot.own : Slot → Bool
  | .ol _ => true
  | .oT _ => true
  | .oK _ => true
  | _ => false
abbrev Rho := List Slot
def KVs (K : PySem.W.Frag) (H : Hp) {κ : Type} : List (κ × D) → List (κ × V) → Prop := Paired fun p q => p.1 = q.1 ∧ Has K H p.2 q.2
theorem KVs.mono {K : PySem.W.Frag} {H H' : Hp} {κ : Type} (s : Same H H') {l : List (κ × D)} {m : List (κ × V)} (h : KVs K H l m) : KVs K H' l m := Paired.mapP h fun _ _ z => ⟨z.1, Has.mono s z.2⟩
def OwnOk (K : PySem.W.Frag) (H Hf : Hp) (a : Addr) : Slot → Prop
  | .ol ds => ∃ xs, H a = some (.lst xs) ∧ HasL K Hf ds xs
  | .oT kvs => ∃ ws, H a = some (.dT ws) ∧ KVs K Hf kvs ws
  | .oK kvs => ∃ ws, H a = some (.dK ws) ∧ KVs K Hf kvs ws
  | _ => True
theorem OwnOk.mono {K : PySem.W.Frag} {H Hf H' Hf' : Hp} {a : Addr} {sl : Slot} (h : OwnOk K H Hf a sl) (k : ∀ o, H a = some o → H' a = some o) (s : Same Hf Hf') : OwnOk K H' Hf' a sl := by
  cases sl with
  | no => trivial
  | fr d => trivial
  | ol ds => obtain ⟨xs, e, q⟩ := h; exact ⟨xs, k _ e, q.mono s⟩
  | oT kvs => obtain ⟨xs, e, q⟩ := h; exact ⟨xs, k _ e, KVs.mono s q⟩
  | oK kvs => obtain ⟨xs, e, q⟩ := h; exact ⟨xs, k _ e, KVs.mono s q⟩
theorem OwnOk.there {K : PySem.W.Frag} {H Hf : Hp} {a : Addr} {sl : Slot} (h : OwnOk K H Hf a sl) (ow : sl.own = true) : ∃ o, H a = some o := by
  cases sl with
  | no => cases ow
  | fr d => cases ow
  | ol ds => obtain ⟨xs, e, q⟩ := h; exact ⟨_, e⟩
  | oT kvs => obtain ⟨xs, e, q⟩ := h; exact ⟨_, e⟩
  | oK kvs => obtain ⟨xs, e, q⟩ := h; exact ⟨_, e⟩
def Tp (o : HO) : Prop := ∃ ks : List Key, o = .tup (ks.map kV)
structure Rep (K : PySem.W.Frag) (H₀ Hf₀ : Hp) (σ : St) (ρ : Rho) (H Hf : Hp) : Prop where
  s0 : Same H₀ H
  sf : Same Hf H
  nf : ∀ b o, Hf b = some o → Hf₀ b = some o ∨ H₀ b = none ∨ Tp o
  f0 : Same Hf₀ Hf
  len : ρ.length = σ.length
  fr : ∀ (i : Nat) (d : D), ρ[i]? = some (.fr d) → ∃ v, σ[i]? = some (some v) ∧ Has K Hf d v
  ow : ∀ (i : Nat) (sl : Slot), ρ[i]? = some sl → sl.own = true → ∃ a, σ[i]? = some (some (.ref a)) ∧ OwnOk K H Hf a sl ∧ Hf a = none ∧ H₀ a = none
  inj : ∀ (i j : Nat) (sl sl' : Slot) (a : Addr), ρ[i]? = some sl → sl.own = true → ρ[j]? = some sl' → sl'.own = true → σ[i]? = some (some (.ref a)) → σ[j]? = some (some (.ref a)) → i = j
theorem OwnOk.notTp {K : PySem.W.Frag} {H Hf H' : Hp} {a : Addr} {sl : Slot} {u : HO} (h : OwnOk K H Hf a sl) (ow : sl.own = true) (k : ∀ o, H a = some o → H' a = some o) (z : H' a = some u) (t : Tp u) : False := by
  obtain ⟨ks, rfl⟩ := t
  cases sl with
  | no => cases ow
  | fr d => cases ow
  | ol ds => obtain ⟨xs, e, q⟩ := h; have := (k _ e).symm.trans z; cases this
  | oT kvs => obtain ⟨xs, e, q⟩ := h; have := (k _ e).symm.trans z; cases this
  | oK kvs => obtain ⟨xs, e, q⟩ := h; have := (k _ e).symm.trans z; cases this
section
variable {K : PySem.W.Frag} {H₀ Hf₀ : Hp} {σ : St} {ρ : Rho} {H Hf H' Hf' : Hp}
theorem Rep.grow (R : Rep K H₀ Hf₀ σ ρ H Hf) (h1 : Same H H') (h2 : Same Hf Hf') (h3 : Same Hf' H') (h4 : ∀ b o, Hf' b = some o → Hf b = some o ∨ H b = none ∨ Tp o) : Rep K H₀ Hf₀ σ ρ H' Hf' where
  s0 := R.s0.trans h1
  sf := h3
  nf := fun b o e => by
    rcases h4 b o e with q | q | q
    · exact R.nf b o q
    · exact .inr (.inl (R.s0.free q))
    · exact .inr (.inr q)
  f0 := R.f0.trans h2
  len := R.len
  fr := fun i d e => by
    obtain ⟨v, q1, q2⟩ := R.fr i d e
    exact ⟨v, q1, q2.mono h2⟩
  ow := fun i sl e o => by
    obtain ⟨a, q1, q2, q3, q4⟩ := R.ow i sl e o
    refine ⟨a, q1, q2.mono (fun o e => h1 _ _ e) h2, ?_, q4⟩
    obtain ⟨ob, qo⟩ := q2.there o
    cases z : Hf' a with
    | none => rfl
    | some u =>
      rcases h4 a u z with y | y | y
      · rw [q3] at y; cases y
      · rw [qo] at y; cases y
      · exact (q2.notTp o (fun o => h1 a o) (h3 _ _ z) y).elim
  inj := R.inj
theorem Rep.lay (R : Rep K H₀ Hf₀ σ ρ H Hf) {p : Addr} {o : HO} (hp : H p = none) : Rep K H₀ Hf₀ σ ρ (upd H p o) (upd Hf p o) := by
  have hfp : Hf p = none := R.sf.free hp
  refine R.grow (fun b u e => ?_) (fun b u e => ?_) (fun b u e => ?_) (fun b u e => ?_)
  · rw [upd_ne (ne_of_none e hp)]; exact e
  · rw [upd_ne (ne_of_none e hfp)]; exact e
  · by_cases hb : b = p
    · subst hb; rw [upd_same] at e ⊢; exact e
    · rw [upd_ne hb] at e ⊢; exact R.sf b u e
  · by_cases hb : b = p
    · subst hb; exact .inr (.inl hp)
    · rw [upd_ne hb] at e; exact .inl e
theorem Rep.layN (R : Rep K H₀ Hf₀ σ ρ H Hf) {p : Addr} {o : HO} (hp : H p = none) : Rep K H₀ Hf₀ σ ρ (upd H p o) Hf := by
  refine R.grow (fun b u e => ?_) sameR (fun b u e => ?_) (fun b u e => .inl e)
  · rw [upd_ne (ne_of_none e hp)]; exact e
  · rw [upd_ne (ne_of_none (R.sf b u e) hp)]; exact R.sf b u e
theorem same_upd {p : Addr} {o : HO} (hp : H p = none) : Same H (upd H p o) := fun b u e => by rw [upd_ne (ne_of_none e hp)]; exact e
theorem Rep.set (R : Rep K H₀ Hf₀ σ ρ H Hf) {d : D} {v : V} (i : Nat) (h : Has K Hf d v) : Rep K H₀ Hf₀ (σ.set i (some v)) (ρ.set i (.fr d)) H Hf where
  s0 := R.s0
  sf := R.sf
  nf := R.nf
  f0 := R.f0
  len := by simp [R.len]
  fr := fun j d' e => by
    rw [List.getElem?_set] at e ⊢
    by_cases hj : i = j
    · rw [if_pos hj] at e ⊢
      split at e
      · cases e
        rename_i hl
        rw [R.len] at hl
        rw [if_pos hl]
        exact ⟨v, rfl, h⟩
      · cases e
    · rw [if_neg hj] at e ⊢
      exact R.fr j d' e
  ow := fun j sl e o => by
    rw [List.getElem?_set] at e ⊢
    by_cases hj : i = j
    · rw [if_pos hj] at e
      split at e
      · cases e; cases o
      · cases e
    · rw [if_neg hj] at e ⊢
      exact R.ow j sl e o
  inj := fun j k sl sl' a e o e' o' z z' => by
    rw [List.getElem?_set] at e e' z z'
    by_cases hj : i = j
    · rw [if_pos hj] at e
      split at e
      · cases e; cases o
      · cases e
    · by_cases hk : i = k
      · rw [if_pos hk] at e'
        split at e'
        · cases e'; cases o'
        · cases e'
      · rw [if_neg hj] at e z
        rw [if_neg hk] at e' z'
        exact R.inj j k sl sl' a e o e' o' z z'
theorem Rep.setOwn (R : Rep K H₀ Hf₀ σ ρ H Hf) {sl : Slot} {a : Addr} (i : Nat) (ho : sl.own = true) (h : OwnOk K H Hf a sl) (hf : Hf a = none) (h0 : H₀ a = none)
    (fresh : ∀ (j : Nat) (sl' : Slot), ρ[j]? = some sl' → sl'.own = true → σ[j]? ≠ some (some (.ref a))) : Rep K H₀ Hf₀ (σ.set i (some (.ref a))) (ρ.set i sl) H Hf where
  s0 := R.s0
  sf := R.sf
  nf := R.nf
  f0 := R.f0
  len := by simp [R.len]
  fr := fun j d' e => by
    rw [List.getElem?_set] at e ⊢
    by_cases hj : i = j
    · rw [if_pos hj] at e
      split at e
      · cases e; cases ho
      · cases e
    · rw [if_neg hj] at e ⊢
      exact R.fr j d' e
  ow := fun j sl' e o => by
    rw [List.getElem?_set] at e ⊢
    by_cases hj : i = j
    · rw [if_pos hj] at e ⊢
      split at e
      · cases e
        rename_i hl
        rw [R.len] at hl
        rw [if_pos hl]
        exact ⟨a, rfl, h, hf, h0⟩
      · cases e
    · rw [if_neg hj] at e ⊢
      exact R.ow j sl' e o
  inj := fun j k s1 s2 b e o e' o' z z' => by
    rw [List.getElem?_set] at e e' z z'
    by_cases hj : i = j
    · by_cases hk : i = k
      · omega
      · rw [if_pos hj] at z
        rw [if_neg hk] at e' z'
        split at z
        · cases z
          exact absurd z' (fresh k s2 e' o')
        · cases z
    · by_cases hk : i = k
      · rw [if_pos hk] at z'
        rw [if_neg hj] at e z
        split at z'
        · cases z'
          exact absurd z (fresh j s1 e o)
        · cases z'
      · rw [if_neg hj] at e z
        rw [if_neg hk] at e' z'
        exact R.inj j k s1 s2 b e o e' o' z z'
theorem Rep.updOwn (R : Rep K H₀ Hf₀ σ ρ H Hf) {sl sl' : Slot} {a : Addr} {o : HO} {i : Nat} (e : ρ[i]? = some sl) (ho : sl.own = true) (ea : σ[i]? = some (some (.ref a))) (ho' : sl'.own = true) (h : OwnOk K (upd H a o) Hf a sl') :
    Rep K H₀ Hf₀ σ (ρ.set i sl') (upd H a o) Hf := by
  obtain ⟨a', q1, q2, q3, q4⟩ := R.ow i sl e ho
  rw [ea] at q1; cases q1
  have hil : i < ρ.length := (List.getElem?_eq_some_iff.mp e).1
  refine ⟨fun b u z => ?_, fun b u z => ?_, R.nf, R.f0, by simp [R.len], fun j d z => ?_, fun j s1 z oz => ?_, fun j k s1 s2 b z oz z' oz' y y' => ?_⟩
  · rw [upd_ne (ne_of_none z q4)]; exact R.s0 b u z
  · rw [upd_ne (ne_of_none z q3)]; exact R.sf b u z
  · rw [List.getElem?_set] at z
    by_cases hj : i = j
    · rw [if_pos hj, if_pos hil] at z
      cases z; cases ho'
    · rw [if_neg hj] at z
      exact R.fr j d z
  · rw [List.getElem?_set] at z
    by_cases hj : i = j
    · rw [if_pos hj, if_pos hil] at z
      cases z
      subst hj
      exact ⟨a, ea, h, q3, q4⟩
    · rw [if_neg hj] at z
      obtain ⟨b, p1, p2, p3, p4⟩ := R.ow j s1 z oz
      refine ⟨b, p1, p2.mono (fun u q => ?_) sameR, p3, p4⟩
      rw [upd_ne]
      · exact q
      · rintro rfl
        exact hj (R.inj i j sl s1 b e ho z oz ea p1)
  · have own_at : ∀ (j : Nat) (s1 : Slot), (ρ.set i sl')[j]? = some s1 → s1.own = true → ∃ s2, ρ[j]? = some s2 ∧ s2.own = true := fun j s1 z oz => by
      rw [List.getElem?_set] at z
      by_cases hj : i = j
      · subst hj; exact ⟨sl, e, ho⟩
      · rw [if_neg hj] at z; exact ⟨s1, z, oz⟩
    obtain ⟨t1, u1, v1⟩ := own_at j s1 z oz
    obtain ⟨t2, u2, v2⟩ := own_at k s2 z' oz'
    exact R.inj j k t1 t2 b u1 v1 u2 v2 y y'
theorem Rep.freeze (R : Rep K H₀ Hf₀ σ ρ H Hf) {ds : List D} {i : Nat} (e : ρ[i]? = some (.ol ds)) : ∃ Hf', Same Hf Hf' ∧ Rep K H₀ Hf₀ σ (ρ.set i (.fr (.lst ds))) H Hf' := by
  obtain ⟨a, q1, ⟨xs, q2, q2'⟩, q3, q4⟩ := R.ow i _ e rfl
  have hil : i < ρ.length := (List.getElem?_eq_some_iff.mp e).1
  have sm : Same Hf (upd Hf a (.lst xs)) := same_upd q3
  refine ⟨upd Hf a (.lst xs), sm, R.s0, fun b u z => ?_, fun b u z => ?_, R.f0.trans sm, by simp [R.len], fun j d z => ?_, fun j s1 z oz => ?_, fun j k s1 s2 b z oz z' oz' y y' => ?_⟩
  · by_cases hb : b = a
    · subst hb; rw [upd_same] at z; cases z; exact q2
    · rw [upd_ne hb] at z; exact R.sf b u z
  · by_cases hb : b = a
    · subst hb; exact .inr (.inl q4)
    · rw [upd_ne hb] at z; exact R.nf b u z
  · rw [List.getElem?_set] at z
    by_cases hj : i = j
    · rw [if_pos hj, if_pos hil] at z
      cases z
      subst hj
      exact ⟨_, q1, Has.lst_iff.mpr ⟨a, xs, rfl, SqL.of upd_same, q2'.mono sm⟩⟩
    · rw [if_neg hj] at z
      obtain ⟨v, p1, p2⟩ := R.fr j d z
      exact ⟨v, p1, p2.mono sm⟩
  · rw [List.getElem?_set] at z
    by_cases hj : i = j
    · rw [if_pos hj, if_pos hil] at z
      cases z; cases oz
    · rw [if_neg hj] at z
      obtain ⟨b, p1, p2, p3, p4⟩ := R.ow j s1 z oz
      refine ⟨b, p1, p2.mono (fun u q => q) sm, ?_, p4⟩
      rw [upd_ne]
      · exact p3
      · rintro rfl
        exact hj (R.inj i j _ s1 b e rfl z oz q1 p1)
  · have own_at : ∀ (j : Nat) (s1 : Slot), (ρ.set i (.fr (.lst ds)))[j]? = some s1 → s1.own = true → ρ[j]? = some s1 := fun j s1 z oz => by
      rw [List.getElem?_set] at z
      by_cases hj : i = j
      · rw [if_pos hj, if_pos hil] at z
        cases z; cases oz
      · rw [if_neg hj] at z; exact z
    exact R.inj j k s1 s2 b (own_at j s1 z oz) oz (own_at k s2 z' oz') oz' y y'
end
end FL
set_option Elab.async false
set_option linter.all false
set_option maxRecDepth 100000
set_option maxHeartbeats 4000000
namespace FL
open PySem PySem.Spec PyProof.Rows L2
abbrev FE := Rho → Option D
abbrev FT := Rho → Option Bool
abbrev FA := Rho → Option (List D)
inductive Out where
  | nx (ρ : Rho)
  | rt (d : D)
  | bk (ρ : Rho)
  | ct (ρ : Rho)
abbrev FS := Rho → Option Out
def HasR (K : PySem.W.Frag) (Hf : Hp) (σ : St) (ρ : Rho) (d : D) (v : V) : Prop := Has K Hf d v ∨ ∃ (i : Nat) (ds : List D), d = .lst ds ∧ ρ[i]? = some (.ol ds) ∧ σ[i]? = some (some v)
theorem HasR.mono {K : PySem.W.Frag} {Hf Hf' : Hp} {σ : St} {ρ : Rho} {d : D} {v : V} (h : HasR K Hf σ ρ d v) (s : Same Hf Hf') : HasR K Hf' σ ρ d v := h.imp (Has.mono s) id
def tF (K : PySem.W.Frag) (f : FE) : TE := fun σ H Q => ∃ H₀ Hf₀ ρ Hf d, Rep K H₀ Hf₀ σ ρ H Hf ∧ f ρ = some d ∧
  ∀ v H' Hf', Rep K H₀ Hf₀ σ ρ H' Hf' → Same H H' → Same Hf Hf' → Has K Hf' d v → Q v H'
def tR (K : PySem.W.Frag) (f : FE) : TE := fun σ H Q => ∃ H₀ Hf₀ ρ Hf d, Rep K H₀ Hf₀ σ ρ H Hf ∧ f ρ = some d ∧
  ∀ v H' Hf', Rep K H₀ Hf₀ σ ρ H' Hf' → Same H H' → Same Hf Hf' → HasR K Hf' σ ρ d v → Q v H'
def tN (K : PySem.W.Frag) (f : FA) : TE := fun σ H Q => ∃ H₀ Hf₀ ρ Hf ds, Rep K H₀ Hf₀ σ ρ H Hf ∧ f ρ = some ds ∧
  ∀ a xs H' Hf', Rep K H₀ Hf₀ σ ρ H' Hf' → Same H H' → Same Hf Hf' → HasL K Hf' ds xs → H' a = some (.lst xs) → Hf' a = none → H a = none → Q (.ref a) H'
def tT (K : PySem.W.Frag) (f : FT) : TT := fun σ H Q => ∃ H₀ Hf₀ ρ Hf b, Rep K H₀ Hf₀ σ ρ H Hf ∧ f ρ = some b ∧
  ∀ H' Hf', Rep K H₀ Hf₀ σ ρ H' Hf' → Same H H' → Same Hf Hf' → Q b H'
def tAF (K : PySem.W.Frag) (f : FA) : TA := fun σ H Q => ∃ H₀ Hf₀ ρ Hf ds, Rep K H₀ Hf₀ σ ρ H Hf ∧ f ρ = some ds ∧
  ∀ vs H' Hf', Rep K H₀ Hf₀ σ ρ H' Hf' → Same H H' → Same Hf Hf' → HasL K Hf' ds vs → Q vs H'
def HasRL (K : PySem.W.Frag) (Hf : Hp) (σ : St) (ρ : Rho) : List D → List V → Prop := Paired (HasR K Hf σ ρ)
def tAR (K : PySem.W.Frag) (f : FA) : TA := fun σ H Q => ∃ H₀ Hf₀ ρ Hf ds, Rep K H₀ Hf₀ σ ρ H Hf ∧ f ρ = some ds ∧
  ∀ vs H' Hf', Rep K H₀ Hf₀ σ ρ H' Hf' → Same H H' → Same Hf Hf' → HasRL K Hf' σ ρ ds vs → Q vs H'
def EndO (K : PySem.W.Frag) (H₀ Hf₀ Hf : Hp) (D' : Ends) : Out → Prop
  | .nx ρ' => ∀ σ' H' Hf', Rep K H₀ Hf₀ σ' ρ' H' Hf' → Same Hf Hf' → D'.nx σ' H'
  | .bk ρ' => ∀ σ' H' Hf', Rep K H₀ Hf₀ σ' ρ' H' Hf' → Same Hf Hf' → D'.bk σ' H'
  | .ct ρ' => ∀ σ' H' Hf', Rep K H₀ Hf₀ σ' ρ' H' Hf' → Same Hf Hf' → D'.ct σ' H'
  | .rt d => ∀ v σ' ρ' H' Hf', Rep K H₀ Hf₀ σ' ρ' H' Hf' → Same Hf Hf' → Has K Hf' d v → D'.rt v H'
def tS (K : PySem.W.Frag) (F : FS) : TS := fun D' σ H => ∃ H₀ Hf₀ ρ Hf o, Rep K H₀ Hf₀ σ ρ H Hf ∧ F ρ = some o ∧ EndO K H₀ Hf₀ Hf D' o
def DE (X : Cx) (e : Expr) (f : FE) : Prop := PE X e (tF X.K f)
def DR (X : Cx) (e : Expr) (f : FE) : Prop := PE X e (tR X.K f)
def DN (X : Cx) (e : Expr) (f : FA) : Prop := PE X e (tN X.K f)
def DT (X : Cx) (e : Expr) (f : FT) : Prop := PT X e (tT X.K f)
def DW (X : Cx) (e : Expr) (f : FT) : Prop := PW X e (tT X.K f)
def DA (X : Cx) (es : List Expr) (f : FA) : Prop := PA X es (tAF X.K f)
def DAR (X : Cx) (es : List Expr) (f : FA) : Prop := PA X es (tAR X.K f)
def DS (X : Cx) (st : Stmt) (F : FS) : Prop := PS X st (tS X.K F)
def DSs (X : Cx) (sts : List Stmt) (F : FS) : Prop := PSs X sts (tS X.K F)
section
variable {X : Cx} {e a b c : Expr} {es : List Expr} {f g h : FE} {fa ga : FA} {ft gt : FT} {pos : Pos} {t t' : TE}
theorem pe_imp (h : PE X e t) (i : ∀ σ H Q, t' σ H Q → t σ H Q) : PE X e t' := fun pins s σ H Q I hw => h pins s σ H Q I (i _ _ _ hw)
theorem pt_imp {t t' : TT} (h : PT X e t) (i : ∀ σ H Q, t' σ H Q → t σ H Q) : PT X e t' := fun pins s σ H Q I hw => h pins s σ H Q I (i _ _ _ hw)
theorem pw_imp {t t' : TT} (h : PW X e t) (i : ∀ σ H Q, t' σ H Q → t σ H Q) : PW X e t' := fun wh pins s σ H Q I hw => h wh pins s σ H Q I (i _ _ _ hw)
theorem pa_imp {t t' : TA} (h : PA X es t) (i : ∀ σ H Q, t' σ H Q → t σ H Q) : PA X es t' := fun p pins s σ H Q I hw => h p pins s σ H Q I (i _ _ _ hw)
theorem ps_imp {st : Stmt} {t t' : TS} (h : PS X st t) (i : ∀ D σ H, t' D σ H → t D σ H) : PS X st t' := fun pins s σ H D I hw => h pins s σ H D I (i _ _ _ hw)
theorem pss_imp {sts : List Stmt} {t t' : TS} (h : PSs X sts t) (i : ∀ D σ H, t' D σ H → t D σ H) : PSs X sts t' := fun pins s σ H D I hw => h pins s σ H D I (i _ _ _ hw)
theorem DE.dr (he : DE X e f) : DR X e f := pe_imp he fun σ H Q ⟨H₀, Hf₀, ρ, Hf, d, R, q, k⟩ => ⟨H₀, Hf₀, ρ, Hf, d, R, q, fun v H' Hf' R' s1 s2 hv => k v H' Hf' R' s1 s2 (.inl hv)⟩
def mapLst (fa : FA) : FE := fun ρ => (fa ρ).map D.lst
theorem DN.de (he : DN X e fa) : DE X e (mapLst fa) := pe_imp he fun σ H Q ⟨H₀, Hf₀, ρ, Hf, d, R, q, k⟩ => by
  unfold mapLst at q
  cases hq : fa ρ with
  | none => rw [hq] at q; cases q
  | some ds =>
    rw [hq] at q; cases q
    refine ⟨H₀, Hf₀, ρ, Hf, ds, R, hq, fun a xs H' Hf' R' s1 s2 hl ha hn hh => ?_⟩
    have sm : Same Hf' (upd Hf' a (.lst xs)) := same_upd hn
    have h0 : H₀ a = none := R.s0.free hh
    refine k (.ref a) H' (upd Hf' a (.lst xs)) ?_ s1 (s2.trans sm) (Has.lst_iff.mpr ⟨a, xs, rfl, SqL.of upd_same, hl.mono sm⟩)
    refine ⟨R'.s0, fun b u z => ?_, fun b u z => ?_, R'.f0.trans sm, R'.len, fun i d z => ?_, fun i sl z o => ?_, R'.inj⟩
    · by_cases hb : b = a
      · subst hb; rw [upd_same] at z; cases z; exact ha
      · rw [upd_ne hb] at z; exact R'.sf b u z
    · by_cases hb : b = a
      · subst hb; exact .inr (.inl h0)
      · rw [upd_ne hb] at z; exact R'.nf b u z
    · obtain ⟨v, p1, p2⟩ := R'.fr i d z
      exact ⟨v, p1, p2.mono sm⟩
    · obtain ⟨b, p1, p2, p3, p4⟩ := R.ow i sl z o
      obtain ⟨b', r1, r2, r3, r4⟩ := R'.ow i sl z o
      rw [p1] at r1; cases r1
      refine ⟨b, p1, r2.mono (fun u q => q) sm, ?_, r4⟩
      rw [upd_ne]
      · exact r3
      · rintro rfl
        obtain ⟨o', q'⟩ := p2.there o
        rw [q'] at hh; cases hh
def vF (i : Nat) : FE := fun ρ => match ρ[i]? with
  | some (.fr d) => some d
  | _ => none
def vR (i : Nat) : FE := fun ρ => match ρ[i]? with
  | some (.fr d) => some d
  | some (.ol ds) => some (.lst ds)
  | _ => none
theorem dv (i : Nat) {x : Str} (hN : X.N[i]? = some x := by rfl) (hv : Vis X.env.scope x := by first | exact Or.inl rfl | exact Or.inr (Or.inl rfl) | exact Or.inr (Or.inr rfl)) (hd : (x == ("__debug__" : Str)) = false := by decide)
    (hcd : (x == ("__classdict__" : Str)) = false := by decide) : DE X (.Name x pos) (vF i) :=
  pe_imp (pe_var hN hv hd hcd) fun σ H Q ⟨H₀, Hf₀, ρ, Hf, d, R, q, k⟩ => by
    unfold vF at q
    split at q
    · cases q
      rename_i e
      obtain ⟨v, e1, e2⟩ := R.fr i d e
      exact ⟨v, e1, k v H Hf R sameR sameR e2⟩
    · cases q
theorem dvr (i : Nat) {x : Str} (hN : X.N[i]? = some x := by rfl) (hv : Vis X.env.scope x := by first | exact Or.inl rfl | exact Or.inr (Or.inl rfl) | exact Or.inr (Or.inr rfl)) (hd : (x == ("__debug__" : Str)) = false := by decide)
    (hcd : (x == ("__classdict__" : Str)) = false := by decide) : DR X (.Name x pos) (vR i) :=
  pe_imp (pe_var hN hv hd hcd) fun σ H Q ⟨H₀, Hf₀, ρ, Hf, d, R, q, k⟩ => by
    unfold vR at q
    split at q
    · cases q
      rename_i e
      obtain ⟨v, e1, e2⟩ := R.fr i d e
      exact ⟨v, e1, k v H Hf R sameR sameR (.inl e2)⟩
    · cases q
      rename_i ds e
      obtain ⟨a, e1, e2, _⟩ := R.ow i _ e rfl
      exact ⟨.ref a, e1, k _ H Hf R sameR sameR (.inr ⟨i, ds, rfl, e, e1⟩)⟩
    · cases q
def cF (d : D) : FE := fun _ => some d
theorem d_int {i : Int} {j pos} : DE X (.Constant (.int i) j pos) (cF (.int i)) := pe_imp pe_int fun σ H Q ⟨H₀, Hf₀, ρ, Hf, d, R, q, k⟩ => by cases q; exact k _ _ _ R sameR sameR (Has.int_iff.mpr rfl)
theorem d_bl {i : Bool} {j pos} : DE X (.Constant (.bool i) j pos) (cF (.bl i)) := pe_imp pe_bl fun σ H Q ⟨H₀, Hf₀, ρ, Hf, d, R, q, k⟩ => by cases q; exact k _ _ _ R sameR sameR (Has.bl_iff.mpr rfl)
theorem d_non {j pos} : DE X (.Constant .none j pos) (cF .non) := pe_imp pe_non fun σ H Q ⟨H₀, Hf₀, ρ, Hf, d, R, q, k⟩ => by cases q; exact k _ _ _ R sameR sameR (Has.non_iff.mpr rfl)
theorem d_str {x : Str} {j pos} : DE X (.Constant (.str x) j pos) (cF (.str x)) := pe_imp pe_str fun σ H Q ⟨H₀, Hf₀, ρ, Hf, d, R, q, k⟩ => by cases q; exact k _ _ _ R sameR sameR (Has.str_iff.mpr rfl)
def scalV : D → Option V
  | .non => some .non
  | .bl b => some (.bl b)
  | .int i => some (.int i)
  | .str x => some (.str x)
  | _ => none
theorem d_glob {x : Str} {d : D} {v : V} {u : Value} {pos : Pos} (hg : Gl X x) (hm : X.mg x = some u) (hs : scalV d = some v) (r : RelV v u) (hd : (x == ("__debug__" : Str)) = false := by decide) : DE X (.Name x pos) (cF d) :=
  pe_imp (pe_glob hg hm r hd) fun σ H Q ⟨H₀, Hf₀, ρ, Hf, d', R, q, k⟩ => by
    cases q
    refine k _ _ _ R sameR sameR ?_
    cases d <;> cases hs
    · exact Has.non_iff.mpr rfl
    · exact Has.bl_iff.mpr rfl
    · exact Has.int_iff.mpr rfl
    · exact Has.str_iff.mpr rfl
def bind2 (φ : D → D → Option D) (f g : FE) : FE := fun ρ => (f ρ).bind fun x => (g ρ).bind fun y => φ x y
def OpD (X : Cx) (r : R2) (φ : D → D → Option D) : Prop :=
  ∀ (σ : St) (ρ : Rho) (H₀ Hf₀ H Hf : Hp) (x y : V) (dx dy d : D) (Q : VK), Rep X.K H₀ Hf₀ σ ρ H Hf → HasR X.K Hf σ ρ dx x → HasR X.K Hf σ ρ dy y → φ dx dy = some d →
    (∀ v H' Hf', Rep X.K H₀ Hf₀ σ ρ H' Hf' → Same H H' → Same Hf Hf' → Has X.K Hf' d v → Q v H') → r x y H Q
theorem tOp_of {r : R2} {φ : D → D → Option D} (hφ : OpD X r φ) (σ : St) (H : Hp) (Q : VK) (hh : tF X.K (bind2 φ f g) σ H Q) : tOp r (tR X.K f) (tR X.K g) σ H Q := by
  obtain ⟨H₀, Hf₀, ρ, Hf, d, R, q, k⟩ := hh
  unfold bind2 at q
  cases hf : f ρ with
  | none => rw [hf] at q; cases q
  | some dx =>
    cases hg : g ρ with
    | none => rw [hf, hg] at q; cases q
    | some dy =>
      rw [hf, hg] at q
      refine ⟨H₀, Hf₀, ρ, Hf, dx, R, hf, fun v H1 Hf1 R1 s1 t1 h1 => ⟨H₀, Hf₀, ρ, Hf1, dy, R1, hg, fun u H2 Hf2 R2 s2 t2 h2 => ?_⟩⟩
      exact hφ σ ρ H₀ Hf₀ H2 Hf2 v u dx dy d Q R2 (h1.mono t2) h2 q fun w' H3 Hf3 R3 s3 t3 h3 => k w' H3 Hf3 R3 ((s1.trans s2).trans s3) ((t1.trans t2).trans t3) h3
theorem d_op {op : Operator} {r : R2} {φ : D → D → Option D} (ho : OpR X (binaryOp op) r) (hφ : OpD X r φ) (ha : DR X a f) (hb : DR X b g) : DE X (.BinOp a op b pos) (bind2 φ f g) :=
  pe_imp (pe_op ho ha hb) (tOp_of hφ)
theorem d_cmp {op : CmpOp} {r : R2} {φ : D → D → Option D} (ho : OpR X (compareOp op) r) (hφ : OpD X r φ) (ha : DR X a f) (hb : DR X b g) (hm : behindInMarks op b = false) : DE X (.Compare a [op] [b] pos) (bind2 φ f g) :=
  pe_imp (pe_cmpR ho ha hb hm) (tOp_of hφ)
theorem d_ix0 {r : R2} {φ : D → D → Option D} (ho : IxR X r) (hφ : OpD X r φ) (ha : DR X a f) (hb : DR X b g) (hs : PlainIx b) : DE X (.Subscript a b pos) (bind2 φ f g) :=
  pe_imp (pe_ix ho ha hb hs) (tOp_of hφ)
section
variable {K : PySem.W.Frag} {H₀ Hf₀ : Hp} {σ : St} {ρ : Rho} {H Hf : Hp} {v : V}
theorem HasR.int {i : Int} (h : HasR K Hf σ ρ (.int i) v) : v = .int i := by
  rcases h with h | ⟨_, _, e, _⟩
  · exact Has.int_iff.mp h
  · cases e
theorem HasR.bl {i : Bool} (h : HasR K Hf σ ρ (.bl i) v) : v = .bl i := by
  rcases h with h | ⟨_, _, e, _⟩
  · exact Has.bl_iff.mp h
  · cases e
theorem HasR.str {i : Str} (h : HasR K Hf σ ρ (.str i) v) : v = .str i := by
  rcases h with h | ⟨_, _, e, _⟩
  · exact Has.str_iff.mp h
  · cases e
theorem HasR.non (h : HasR K Hf σ ρ .non v) : v = .non := by
  rcases h with h | ⟨_, _, e, _⟩
  · exact Has.non_iff.mp h
  · cases e
theorem HasR.tup {ds : List D} (h : HasR K Hf σ ρ (.tup ds) v) (R : Rep K H₀ Hf₀ σ ρ H Hf) : ∃ a xs, v = .ref a ∧ SqT K H a xs ∧ HasL K Hf ds xs := by
  rcases h with h | ⟨_, _, e, _⟩
  · obtain ⟨a, xs, e, q, l⟩ := Has.tup_iff.mp h
    exact ⟨a, xs, e, sameT R.sf q, l⟩
  · cases e
theorem HasR.lst {ds : List D} (h : HasR K Hf σ ρ (.lst ds) v) (R : Rep K H₀ Hf₀ σ ρ H Hf) : ∃ a xs, v = .ref a ∧ SqL K H a xs ∧ HasL K Hf ds xs := by
  rcases h with h | ⟨i, ds', e, e1, e2⟩
  · obtain ⟨a, xs, e, q, l⟩ := Has.lst_iff.mp h
    exact ⟨a, xs, e, R.sf.seq q, l⟩
  · cases e
    obtain ⟨a, p1, ⟨xs, p2, p3⟩, _⟩ := R.ow i _ e1 rfl
    rw [e2] at p1; cases p1
    exact ⟨a, xs, rfl, SqL.of p2, p3⟩
end
def iiD (φ : Int → Int → Option D) : D → D → Option D
  | .int i, .int j => φ i j
  | _, _ => none
theorem iiD_some {φ : Int → Int → Option D} {x y d : D} (h : iiD φ x y = some d) : ∃ i j, x = .int i ∧ y = .int j ∧ φ i j = some d := by
  cases x <;> cases y <;> first | cases h | exact ⟨_, _, rfl, rfl, h⟩
theorem has_scal {K : PySem.W.Frag} {H : Hp} {d : D} {v : V} (h : scalV d = some v) : Has K H d v := by
  cases d <;> cases h
  · exact Has.non_iff.mpr rfl
  · exact Has.bl_iff.mpr rfl
  · exact Has.int_iff.mpr rfl
  · exact Has.str_iff.mpr rfl
theorem opD_ii {C : Int → Int → Prop} {gv : Int → Int → V} {φ : Int → Int → Option D} (h : ∀ i j d, φ i j = some d → C i j ∧ scalV d = some (gv i j)) : OpD X (rI C gv) (iiD φ) := by
  intro σ ρ H₀ Hf₀ H Hf x y dx dy d Q R hx hy hφ k
  obtain ⟨i, j, rfl, rfl, hd⟩ := iiD_some hφ
  obtain ⟨c, s⟩ := h i j d hd
  exact ⟨i, j, hx.int, hy.int, c, k _ _ _ R sameR sameR (has_scal s)⟩
theorem opD_ii0 {gv : Int → Int → V} {φ : Int → Int → Option D} (h : ∀ i j d, φ i j = some d → scalV d = some (gv i j)) : OpD X (rI0 gv) (iiD φ) := by
  intro σ ρ H₀ Hf₀ H Hf x y dx dy d Q R hx hy hφ k
  obtain ⟨i, j, rfl, rfl, hd⟩ := iiD_some hφ
  exact ⟨i, j, hx.int, hy.int, k _ _ _ R sameR sameR (has_scal (h i j d hd))⟩
end
end FL
set_option Elab.async false
set_option linter.all false
set_option maxRecDepth 100000
set_option maxHeartbeats 4000000
namespace FL
open PySem PySem.Spec PyProof.Rows L2
def big : Nat := 2 ^ 8000
theorem bits_big {i : Int} (h : i.natAbs < big) : Builtin.Int.intBits i ≤ 8001 := by
  unfold Builtin.Int.intBits
  split
  · exact Nat.zero_le _
  · have : i.natAbs.log2 < 8000 := by
      rcases Nat.eq_zero_or_pos i.natAbs with h0 | hp
      · rw [h0]; decide
      · exact (Nat.log2_lt (Nat.ne_of_gt hp)).mpr h
    omega
def MulB (i j : Int) : Prop := i.natAbs < 2 ^ 64 ∨ j.natAbs < 2 ^ 64 ∨ (i.natAbs < big ∧ j.natAbs < big)
instance (i j : Int) : Decidable (MulB i j) := by unfold MulB; exact inferInstance
theorem MulB.ok {i j : Int} (h : MulB i j) : IntMulOk i j := by
  rcases h with h | h | ⟨h1, h2⟩
  · exact .of_left (intBits_le_64 (by omega) (by omega))
  · exact .of_right (intBits_le_64 (by omega) (by omega))
  · exact IntMulOk.of_le (bits_big h1) (bits_big h2) (by decide)
def DivB (j : Int) : Prop := 0 < j ∧ j < 2 ^ 64
instance (j : Int) : Decidable (DivB j) := by unfold DivB; exact inferInstance
def PowB (i j : Int) : Prop := 0 ≤ j ∧ j ≤ 1000 ∧ i.natAbs < big
instance (i j : Int) : Decidable (PowB i j) := by unfold PowB; exact inferInstance
section
variable {X : Cx} {e a b c : Expr} {es : List Expr} {f g h : FE} {fa ga : FA} {ft gt : FT} {pos : Pos} {t t' : TE}
theorem op_mulG : OpR X (binaryOp .Mult) (rI MulB fun i j => .int (i * j)) := opI fun _ _ _ _ _ _ _ hc q => mul_int q hc.ok
theorem op_fdivG : OpR X (binaryOp .FloorDiv) (rI (fun _ j => DivB j) fun i j => .int (i / j)) := opI fun i j _ _ _ _ _ hc q => by
  have h1 : (0 : Int) < j := hc.1
  have h2 : j < 2 ^ 64 := hc.2
  refine floordiv_int (by omega) (by rw [Int.fdiv_eq_ediv_of_nonneg i (by omega)]; exact q) (.inl (PyProof.noPylong_of_log2 ?_))
  have hn : j.natAbs < 2 ^ 64 := by omega
  have : j.natAbs.log2 < 64 := (Nat.log2_lt (by omega)).mpr hn
  omega
theorem op_powG : OpR X (binaryOp .Pow) (rI PowB fun i j => .int (i ^ j.toNat)) := opI fun i j _ _ _ _ _ hc q => by
  obtain ⟨h1, h2, h3⟩ := hc
  refine pow_int h1 ?_ q
  have hb := bits_big h3
  have : (Builtin.Int.intBits i : Int) * j ≤ 8001 * 1000 := Int.mul_le_mul (by omega) h2 h1 (by decide)
  exact Int.le_trans this (by decide)
def mulD : D → D → Option D := iiD fun i j => if MulB i j then some (.int (i * j)) else none
def subD : D → D → Option D := iiD fun i j => some (.int (i - j))
def modD : D → D → Option D := iiD fun i j => if 0 < j then some (.int (i % j)) else none
def fdivD : D → D → Option D := iiD fun i j => if DivB j then some (.int (i / j)) else none
def powD : D → D → Option D := iiD fun i j => if PowB i j then some (.int (i ^ j.toNat)) else none
theorem opD_mul : OpD X (rI MulB fun i j => .int (i * j)) mulD := opD_ii fun i j d q => by
  split at q
  · cases q; exact ⟨by assumption, rfl⟩
  · cases q
theorem opD_sub : OpD X (rI0 fun i j => .int (i - j)) subD := opD_ii0 fun i j d q => by cases q; rfl
theorem opD_mod : OpD X (rI (fun _ j => 0 < j) fun i j => .int (i % j)) modD := opD_ii fun i j d q => by
  split at q
  · cases q; exact ⟨by assumption, rfl⟩
  · cases q
theorem opD_fdiv : OpD X (rI (fun _ j => DivB j) fun i j => .int (i / j)) fdivD := opD_ii fun i j d q => by
  split at q
  · cases q; exact ⟨by assumption, rfl⟩
  · cases q
theorem opD_pow : OpD X (rI PowB fun i j => .int (i ^ j.toNat)) powD := opD_ii fun i j d q => by
  split at q
  · cases q; exact ⟨by assumption, rfl⟩
  · cases q
theorem d_sub (ha : DR X a f) (hb : DR X b g) : DE X (.BinOp a .Sub b pos) (bind2 subD f g) := d_op op_sub opD_sub ha hb
theorem d_mul (ha : DR X a f) (hb : DR X b g) : DE X (.BinOp a .Mult b pos) (bind2 mulD f g) := d_op op_mulG opD_mul ha hb
theorem d_mod (ha : DR X a f) (hb : DR X b g) : DE X (.BinOp a .Mod b pos) (bind2 modD f g) := d_op op_mod opD_mod ha hb
theorem d_fdiv (ha : DR X a f) (hb : DR X b g) : DE X (.BinOp a .FloorDiv b pos) (bind2 fdivD f g) := d_op op_fdivG opD_fdiv ha hb
theorem d_pow (ha : DR X a f) (hb : DR X b g) : DE X (.BinOp a .Pow b pos) (bind2 powD f g) := d_op op_powG opD_pow ha hb
def addD : D → D → Option D
  | .int i, .int j => some (.int (i + j))
  | .str x, .str y => if x.length + y.length ≤ sizeLine then some (.str (x ++ y)) else none
  | .lst xs, .lst ys => if xs.length + ys.length ≤ sizeLine then some (.lst (xs ++ ys)) else none
  | .tup (x :: xs), .tup ys => if xs.length + 1 + ys.length ≤ sizeLine then some (.tup (x :: xs ++ ys)) else none
  | _, _ => none
def bind1 (φ : D → Option D) (f : FE) : FE := fun ρ => (f ρ).bind φ
def negD : D → Option D
  | .int i => some (.int (-i))
  | _ => none
theorem d_neg (ha : DR X a f) : DE X (.UnaryOp .USub a pos) (bind1 negD f) :=
  pe_imp (pe_un un_neg ha) fun σ H Q ⟨H₀, Hf₀, ρ, Hf, d, R, q, k⟩ => by
    unfold bind1 at q
    cases hf : f ρ with
    | none => rw [hf] at q; cases q
    | some x =>
      rw [hf] at q
      cases x <;> try cases q
      exact ⟨H₀, Hf₀, ρ, Hf, _, R, hf, fun v H1 Hf1 R1 s1 t1 h1 => ⟨_, h1.int, k _ _ _ R1 s1 t1 (Has.int_iff.mpr rfl)⟩⟩
def ltD : D → D → Option D := iiD fun i j => some (.bl (decide (i < j)))
def gtD : D → D → Option D := iiD fun i j => some (.bl (decide (j < i)))
def geD : D → D → Option D := iiD fun i j => some (.bl (decide (j ≤ i)))
theorem opD_lt : OpD X (rI0 fun i j => .bl (decide (i < j))) ltD := opD_ii0 fun i j d q => by cases q; rfl
theorem opD_gt : OpD X (rI0 fun i j => .bl (decide (j < i))) gtD := opD_ii0 fun i j d q => by cases q; rfl
theorem opD_ge : OpD X (rI0 fun i j => .bl (decide (j ≤ i))) geD := opD_ii0 fun i j d q => by cases q; rfl
def isD (neg : Bool) : D → D → Option D := fun x y => match y with
  | .non => match x with
    | .non => some (.bl (!neg))
    | _ => some (.bl neg)
  | _ => none
theorem has_none {K : PySem.W.Frag} {Hf : Hp} {σ : St} {ρ : Rho} {x : D} {v : V} (h : HasR K Hf σ ρ x v) (R : ∃ H₀ Hf₀ H, Rep K H₀ Hf₀ σ ρ H Hf) : decide (v = V.non) = (match x with | .non => true | _ => false) := by
  obtain ⟨H₀, Hf₀, H, R⟩ := R
  cases x with
  | non => cases h.non; rfl
  | bl b => cases h.bl; rfl
  | int b => cases h.int; rfl
  | str b => cases h.str; rfl
  | tup ds => obtain ⟨a, xs, rfl, _⟩ := h.tup R; rfl
  | lst ds => obtain ⟨a, xs, rfl, _⟩ := h.lst R; rfl
theorem opD_isnot : OpD X (fun x y H Q => y = .non ∧ Q (.bl (!decide (x = .non))) H) (isD true) := by
  intro σ ρ H₀ Hf₀ H Hf x y dx dy d Q R hx hy hφ k
  cases dy <;> try cases hφ
  have e := has_none hx ⟨_, _, _, R⟩
  refine ⟨hy.non, ?_⟩
  rw [e]
  cases dx <;> cases hφ <;> exact k _ _ _ R sameR sameR (Has.bl_iff.mpr rfl)
def ixD : D → D → Option D
  | .tup ds, .int i => atI ds i
  | .lst ds, .int i => atI ds i
  | .str z, .int i => if z.length ≤ sizeLine then (atI z.cps.toList i).map fun c => .str ⟨#[c]⟩ else none
  | _, _ => none
theorem HasL.atI {K : PySem.W.Frag} {H : Hp} {ds : List D} {xs : List V} {i : Int} {d : D} (h : HasL K H ds xs) (e : L2.atI ds i = some d) : ∃ v, L2.atI xs i = some v ∧ Has K H d v := by
  unfold L2.atI at e ⊢
  rw [h.length]
  cases hj : ixN ds.length i with
  | none => rw [hj] at e; cases e
  | some j =>
    rw [hj] at e
    exact h.get e
theorem opD_ix : OpD X (rIx X.K) ixD := by
  intro σ ρ H₀ Hf₀ H Hf x y dx dy d Q R hx hy hφ k
  unfold ixD at hφ
  split at hφ
  · obtain ⟨a, xs, rfl, qa, la⟩ := hx.tup R
    obtain ⟨v, e1, e2⟩ := la.atI hφ
    exact .inr (.inl ⟨a, xs, _, v, rfl, hy.int, qa, e1, k _ _ _ R sameR sameR e2⟩)
  · obtain ⟨a, xs, rfl, qa, la⟩ := hx.lst R
    obtain ⟨v, e1, e2⟩ := la.atI hφ
    exact .inl ⟨a, xs, _, v, rfl, hy.int, qa, e1, k _ _ _ R sameR sameR e2⟩
  · split at hφ
    · rename_i z i hz
      cases e : atI z.cps.toList i with
      | none => rw [e] at hφ; cases hφ
      | some c =>
        rw [e] at hφ
        cases hφ
        exact .inr (.inr ⟨z, i, c, hx.str, hy.int, hz, e, k _ _ _ R sameR sameR (Has.str_iff.mpr rfl)⟩)
    · cases hφ
  · cases hφ
theorem d_ix (ha : DR X a f) (hb : DR X b g) (hs : PlainIx b := by intro _ _; rfl) : DE X (.Subscript a b pos) (bind2 ixD f g) := d_ix0 ix_seq opD_ix ha hb hs
def nilA : FA := fun _ => some []
def consA (f : FE) (g : FA) : FA := fun ρ => (f ρ).bind fun x => (g ρ).bind fun xs => some (x :: xs)
theorem consA_some {f : FE} {g : FA} {ρ : Rho} {l : List D} (h : consA f g ρ = some l) : ∃ x xs, f ρ = some x ∧ g ρ = some xs ∧ l = x :: xs := by
  unfold consA at h
  cases hf : f ρ with
  | none => rw [hf] at h; cases h
  | some x =>
    cases hg : g ρ with
    | none => rw [hf, hg] at h; cases h
    | some xs => rw [hf, hg] at h; cases h; exact ⟨x, xs, rfl, rfl, rfl⟩
theorem da_nil : DA X [] nilA := pa_imp pa_nil fun σ H Q ⟨H₀, Hf₀, ρ, Hf, d, R, q, k⟩ => by cases q; exact k _ _ _ R sameR sameR .nil
theorem da_cons (ha : DE X e f) (hr : DA X es fa) (hs : starEach (e :: es) X.env = (false, eval e X.env) :: starEach es X.env := by rfl) : DA X (e :: es) (consA f fa) :=
  pa_imp (pa_cons ha hr hs) fun σ H Q ⟨H₀, Hf₀, ρ, Hf, d, R, q, k⟩ => by
    obtain ⟨x, xs, e1, e2, rfl⟩ := consA_some q
    exact ⟨H₀, Hf₀, ρ, Hf, x, R, e1, fun v H1 Hf1 R1 s1 t1 h1 => ⟨H₀, Hf₀, ρ, Hf1, xs, R1, e2, fun vs H2 Hf2 R2 s2 t2 h2 => k _ _ _ R2 (s1.trans s2) (t1.trans t2) (.cons (h1.mono t2) h2)⟩⟩
theorem dar_nil : DAR X [] nilA := pa_imp pa_nil fun σ H Q ⟨H₀, Hf₀, ρ, Hf, d, R, q, k⟩ => by cases q; exact k _ _ _ R sameR sameR .nil
theorem dar_cons (ha : DR X e f) (hr : DAR X es fa) (hs : starEach (e :: es) X.env = (false, eval e X.env) :: starEach es X.env := by rfl) : DAR X (e :: es) (consA f fa) :=
  pa_imp (pa_cons ha hr hs) fun σ H Q ⟨H₀, Hf₀, ρ, Hf, d, R, q, k⟩ => by
    obtain ⟨x, xs, e1, e2, rfl⟩ := consA_some q
    exact ⟨H₀, Hf₀, ρ, Hf, x, R, e1, fun v H1 Hf1 R1 s1 t1 h1 => ⟨H₀, Hf₀, ρ, Hf1, xs, R1, e2, fun vs H2 Hf2 R2 s2 t2 h2 => k _ _ _ R2 (s1.trans s2) (t1.trans t2) (.cons (h1.mono t2) h2)⟩⟩
def tupF (g : FA) : FE := fun ρ => (g ρ).bind fun xs => if xs.length ≤ sizeLine then some (.tup xs) else none
theorem d_tup {x1} (h : DA X es fa) : DE X (.Tuple es x1 pos) (tupF fa) :=
  pe_imp (pe_tup h) fun σ H Q ⟨H₀, Hf₀, ρ, Hf, d, R, q, k⟩ => by
    unfold tupF at q
    cases hg : fa ρ with
    | none => rw [hg] at q; cases q
    | some xs =>
      rw [hg] at q
      simp only [Option.bind_some] at q
      split at q
      · cases q
        rename_i hl
        refine ⟨H₀, Hf₀, ρ, Hf, xs, R, hg, fun vs H1 Hf1 R1 s1 t1 h1 => ⟨by rw [h1.length]; exact hl, fun p hp => ?_⟩⟩
        have sm := same_upd (o := .tup vs) (R1.sf.free hp)
        exact k _ _ _ (R1.lay hp) (s1.trans (same_upd hp)) (t1.trans sm) (Has.tup_iff.mpr ⟨p, vs, rfl, SqT.of upd_same, h1.mono sm⟩)
      · cases q
def lstF (g : FA) : FA := fun ρ => (g ρ).bind fun xs => if xs.length ≤ sizeLine then some xs else none
theorem dn_lst (h : DA X es fa) : DN X (.List es pos) (lstF fa) :=
  pe_imp (pe_lst h) fun σ H Q ⟨H₀, Hf₀, ρ, Hf, d, R, q, k⟩ => by
    unfold lstF at q
    cases hg : fa ρ with
    | none => rw [hg] at q; cases q
    | some xs =>
      rw [hg] at q
      simp only [Option.bind_some] at q
      split at q
      · cases q
        rename_i hl
        refine ⟨H₀, Hf₀, ρ, Hf, _, R, hg, fun vs H1 Hf1 R1 s1 t1 h1 => ⟨by rw [h1.length]; exact hl, fun p hp => ?_⟩⟩
        exact k _ _ _ _ (R1.layN hp) (s1.trans (same_upd hp)) t1 h1 upd_same (R1.sf.free hp) (s1.free hp)
      · cases q
def blF (f : FE) : FT := fun ρ => (f ρ).bind fun | .bl b => some b | _ => none
theorem blF_some {f : FE} {ρ : Rho} {b : Bool} (h : blF f ρ = some b) : f ρ = some (.bl b) := by
  unfold blF at h
  cases hf : f ρ with
  | none => rw [hf] at h; cases h
  | some x => rw [hf] at h; cases x <;> cases h; rfl
theorem dt_val (h : DR X e f) (he : ∀ whole, isTrue e X.env whole = (do let v ← whole; standAt e.pos; holding [v] (truthy v)) := by intro _; rfl) : DT X e (blF f) :=
  pt_imp (pt_val h he) fun σ H Q ⟨H₀, Hf₀, ρ, Hf, d, R, q, k⟩ => ⟨H₀, Hf₀, ρ, Hf, _, R, blF_some q, fun v H1 Hf1 R1 s1 t1 h1 => ⟨d, h1.bl, k _ _ R1 s1 t1⟩⟩
theorem pt_of_cmp {op : CmpOp} {r : R2} {φ : D → D → Option D} (ho : OpR X (compareOp op) r) (hφ : OpD X r φ) (ha : DR X a f) (hb : DR X b g) (hm : behindInMarks op b = false) : DT X (.Compare a [op] [b] pos) (blF (bind2 φ f g)) :=
  pt_imp (pt_cmpR ho ha hb hm) fun σ H Q ⟨H₀, Hf₀, ρ, Hf, d, R, q, k⟩ => tOp_of hφ σ H _ ⟨H₀, Hf₀, ρ, Hf, _, R, blF_some q, fun v H1 Hf1 R1 s1 t1 h1 => ⟨d, Has.bl_iff.mp h1, k _ _ R1 s1 t1⟩⟩
theorem dt_lt (ha : DR X a f) (hb : DR X b g) : DT X (.Compare a [.Lt] [b] pos) (blF (bind2 ltD f g)) := pt_of_cmp op_lt opD_lt ha hb (nomark _)
theorem dt_gt (ha : DR X a f) (hb : DR X b g) : DT X (.Compare a [.Gt] [b] pos) (blF (bind2 gtD f g)) := pt_of_cmp op_gt opD_gt ha hb (nomark _)
theorem dt_ge (ha : DR X a f) (hb : DR X b g) : DT X (.Compare a [.GtE] [b] pos) (blF (bind2 geD f g)) := pt_of_cmp op_ge opD_ge ha hb (nomark _)
theorem dt_isnot (ha : DR X a f) (hb : DR X b g) : DT X (.Compare a [.IsNot] [b] pos) (blF (bind2 (isD true) f g)) := pt_of_cmp op_notN opD_isnot ha hb (nomark _)
def andT (f g : FT) : FT := fun ρ => (f ρ).bind fun b => if b = true then g ρ else some false
def orT (f g : FT) : FT := fun ρ => (f ρ).bind fun b => if b = true then some true else g ρ
def notT (f : FT) : FT := fun ρ => (f ρ).bind fun b => some (!b)
variable {rest : List Expr}
theorem bindT_some {α : Type} {f : Rho → Option Bool} {k : Bool → Option α} {ρ : Rho} {r : α} (h : (f ρ).bind k = some r) : ∃ b, f ρ = some b ∧ k b = some r := by
  cases hf : f ρ with
  | none => rw [hf] at h; cases h
  | some x => rw [hf] at h; exact ⟨x, rfl, h⟩
theorem dw_and1 (ha : DT X a ft) : DW X (.BoolOp .And [a] pos) ft := pw_and1 ha
theorem dw_or1 (ha : DT X a ft) : DW X (.BoolOp .Or [a] pos) ft := pw_or1 ha
theorem dw_and (ha : DT X a ft) (hb : DW X (.BoolOp .And (b :: rest) pos) gt) : DW X (.BoolOp .And (a :: b :: rest) pos) (andT ft gt) :=
  pw_imp (pw_and ha hb) fun σ H Q ⟨H₀, Hf₀, ρ, Hf, d, R, q, k⟩ => by
    obtain ⟨b, e1, e2⟩ := bindT_some q
    refine ⟨H₀, Hf₀, ρ, Hf, b, R, e1, fun H1 Hf1 R1 s1 t1 => ?_⟩
    cases b with
    | true => exact iteT ⟨H₀, Hf₀, ρ, Hf1, d, R1, e2, fun H2 Hf2 R2 s2 t2 => k _ _ R2 (s1.trans s2) (t1.trans t2)⟩
    | false => cases e2; exact iteF (k _ _ R1 s1 t1)
theorem dw_or (ha : DT X a ft) (hb : DW X (.BoolOp .Or (b :: rest) pos) gt) : DW X (.BoolOp .Or (a :: b :: rest) pos) (orT ft gt) :=
  pw_imp (pw_or ha hb) fun σ H Q ⟨H₀, Hf₀, ρ, Hf, d, R, q, k⟩ => by
    obtain ⟨b, e1, e2⟩ := bindT_some q
    refine ⟨H₀, Hf₀, ρ, Hf, b, R, e1, fun H1 Hf1 R1 s1 t1 => ?_⟩
    cases b with
    | false => exact iteF ⟨H₀, Hf₀, ρ, Hf1, d, R1, e2, fun H2 Hf2 R2 s2 t2 => k _ _ R2 (s1.trans s2) (t1.trans t2)⟩
    | true => cases e2; exact iteT (k _ _ R1 s1 t1)
theorem DW.dt (h : DW X e ft) : DT X e ft := PW.pt h
theorem dt_not (ha : DT X a ft) : DT X (.UnaryOp .Not a pos) (notT ft) :=
  pt_imp (pt_not ha) fun σ H Q ⟨H₀, Hf₀, ρ, Hf, d, R, q, k⟩ => by
    obtain ⟨b, e1, e2⟩ := bindT_some q
    cases e2
    exact ⟨H₀, Hf₀, ρ, Hf, b, R, e1, fun H1 Hf1 R1 s1 t1 => k _ _ R1 s1 t1⟩
def andV (f g : FE) : FE := fun ρ => (f ρ).bind fun | .bl b => (if b = true then g ρ else some (.bl false)) | _ => none
def notV (f : FE) : FE := fun ρ => (f ρ).bind fun | .bl b => some (.bl (!b)) | _ => none
theorem bindV_some {α : Type} {f : FE} {k : D → Option α} {ρ : Rho} {r : α} (h : (f ρ).bind k = some r) : ∃ b, f ρ = some b ∧ k b = some r := by
  cases hf : f ρ with
  | none => rw [hf] at h; cases h
  | some x => rw [hf] at h; exact ⟨x, rfl, h⟩
theorem d_one {op} (h : DE X a f) : DE X (.BoolOp op [a] pos) f := pe_one h
theorem d_and (ha : DE X a f) (hb : DE X (.BoolOp .And (b :: rest) pos) g) : DE X (.BoolOp .And (a :: b :: rest) pos) (andV f g) :=
  pe_imp (pe_and ha hb) fun σ H Q ⟨H₀, Hf₀, ρ, Hf, d, R, q, k⟩ => by
    obtain ⟨x, e1, e2⟩ := bindV_some q
    cases x <;> try cases e2
    rename_i b
    refine ⟨H₀, Hf₀, ρ, Hf, _, R, e1, fun v H1 Hf1 R1 s1 t1 h1 => ⟨b, Has.bl_iff.mp h1, ?_⟩⟩
    cases b with
    | true => exact iteT ⟨H₀, Hf₀, ρ, Hf1, d, R1, e2, fun v H2 Hf2 R2 s2 t2 h2 => k _ _ _ R2 (s1.trans s2) (t1.trans t2) h2⟩
    | false => cases e2; exact iteF (k _ _ _ R1 s1 t1 (Has.bl_iff.mpr rfl))
theorem d_not (ha : DE X a f) : DE X (.UnaryOp .Not a pos) (notV f) :=
  pe_imp (pe_not ha) fun σ H Q ⟨H₀, Hf₀, ρ, Hf, d, R, q, k⟩ => by
    obtain ⟨x, e1, e2⟩ := bindV_some q
    cases x <;> try cases e2
    rename_i b
    exact ⟨H₀, Hf₀, ρ, Hf, _, R, e1, fun v H1 Hf1 R1 s1 t1 h1 => ⟨b, Has.bl_iff.mp h1, k _ _ _ R1 s1 t1 (Has.bl_iff.mpr rfl)⟩⟩
end
end FL
set_option Elab.async false
set_option linter.all false
set_option maxRecDepth 100000
set_option maxHeartbeats 4000000
namespace FL
open PySem PySem.Spec PyProof.Rows L2
mutual
def eqD : D → D → Bool
  | .non, .non => true
  | .bl a, .bl b => a == b
  | .bl a, .int b => (if a then 1 else 0) == b
  | .int a, .bl b => a == (if b then 1 else 0)
  | .int a, .int b => a == b
  | .str a, .str b => a == b
  | .tup a, .tup b => eqDL a b
  | .lst a, .lst b => eqDL a b
  | _, _ => false
def eqDL : List D → List D → Bool
  | [], [] => true
  | x :: xs, y :: ys => eqD x y && eqDL xs ys
  | _, _ => false
end
mutual
def dep : D → Nat
  | .tup a => depL a + 1
  | .lst a => depL a + 1
  | _ => 0
def depL : List D → Nat
  | [] => 0
  | x :: xs => max (dep x) (depL xs)
end
theorem depL_le {l : List D} {k : Nat} (h : ∀ d ∈ l, dep d ≤ k) : depL l ≤ k := by
  induction l with
  | nil => simp [depL]
  | cons x xs ih =>
    unfold depL
    exact Nat.max_le.mpr ⟨h x List.mem_cons_self, ih fun d hd => h d (List.mem_cons_of_mem _ hd)⟩
mutual
theorem eqD_refl : ∀ d : D, eqD d d = true
  | .non => by simp [eqD]
  | .bl b => by simp [eqD]
  | .int i => by simp [eqD]
  | .str x => by simp [eqD]
  | .tup ds => by unfold eqD; exact eqDL_refl ds
  | .lst ds => by unfold eqD; exact eqDL_refl ds
theorem eqDL_refl : ∀ ds : List D, eqDL ds ds = true
  | [] => by simp [eqDL]
  | d :: ds => by unfold eqDL; rw [eqD_refl d, eqDL_refl ds]; rfl
end
theorem eqDL_eq : ∀ (xs ys : List D), eqDL xs ys = ((List.range (min xs.length ys.length)).all (fun j => eqD (xs.getD j .non) (ys.getD j .non)) && xs.length == ys.length)
  | [], [] => by simp [eqDL]
  | [], y :: ys => by simp [eqDL]
  | x :: xs, [] => by simp [eqDL]
  | x :: xs, y :: ys => by
    unfold eqDL
    rw [eqDL_eq xs ys]
    have e : min (x :: xs).length (y :: ys).length = min xs.length ys.length + 1 := by simp only [List.length_cons]; omega
    rw [e, List.range_succ_eq_map, List.all_cons, List.all_map]
    simp [Function.comp_def, Bool.and_assoc]
section
variable {X : Cx} {pins : List (Addr × Obj)} {σ : St} {H Hf : Hp} {s : Shared}
mutual
/-- one value, one datum -/
theorem Has.inj (I : Inv X pins σ H s) : ∀ {d d' : D} {v : V}, Has X.K H d v → Has X.K H d' v → d = d'
  | .non, d', v, h, h' => by
    rw [Has.non_iff] at h; subst h
    cases d' with
    | non => rfl
    | bl b => cases Has.bl_iff.mp h'
    | int b => cases Has.int_iff.mp h'
    | str b => cases Has.str_iff.mp h'
    | tup b => obtain ⟨_, _, e, _⟩ := Has.tup_iff.mp h'; cases e
    | lst b => obtain ⟨_, _, e, _⟩ := Has.lst_iff.mp h'; cases e
  | .bl x, d', v, h, h' => by
    rw [Has.bl_iff] at h; subst h
    cases d' with
    | non => cases Has.non_iff.mp h'
    | bl b => cases Has.bl_iff.mp h'; rfl
    | int b => cases Has.int_iff.mp h'
    | str b => cases Has.str_iff.mp h'
    | tup b => obtain ⟨_, _, e, _⟩ := Has.tup_iff.mp h'; cases e
    | lst b => obtain ⟨_, _, e, _⟩ := Has.lst_iff.mp h'; cases e
  | .int x, d', v, h, h' => by
    rw [Has.int_iff] at h; subst h
    cases d' with
    | non => cases Has.non_iff.mp h'
    | bl b => cases Has.bl_iff.mp h'
    | int b => cases Has.int_iff.mp h'; rfl
    | str b => cases Has.str_iff.mp h'
    | tup b => obtain ⟨_, _, e, _⟩ := Has.tup_iff.mp h'; cases e
    | lst b => obtain ⟨_, _, e, _⟩ := Has.lst_iff.mp h'; cases e
  | .str x, d', v, h, h' => by
    rw [Has.str_iff] at h; subst h
    cases d' with
    | non => cases Has.non_iff.mp h'
    | bl b => cases Has.bl_iff.mp h'
    | int b => cases Has.int_iff.mp h'
    | str b => cases Has.str_iff.mp h'; rfl
    | tup b => obtain ⟨_, _, e, _⟩ := Has.tup_iff.mp h'; cases e
    | lst b => obtain ⟨_, _, e, _⟩ := Has.lst_iff.mp h'; cases e
  | .tup x, d', v, h, h' => by
    obtain ⟨a, xs, rfl, qa, la⟩ := Has.tup_iff.mp h
    cases d' with
    | non => cases Has.non_iff.mp h'
    | bl b => cases Has.bl_iff.mp h'
    | int b => cases Has.int_iff.mp h'
    | str b => cases Has.str_iff.mp h'
    | tup b =>
      obtain ⟨a', ys, e, qb, lb⟩ := Has.tup_iff.mp h'
      cases e
      cases I.tuple_inj qa qb
      rw [HasL.inj I la lb]
    | lst b =>
      obtain ⟨a', ys, e, qb, lb⟩ := Has.lst_iff.mp h'
      cases e
      obtain ⟨its, _, p1, _⟩ := I.tuple qa
      obtain ⟨its', _, p2, _⟩ := I.list qb
      exact absurd rfl (SeqAt.ne_of_list_tuple p2.isList p1)
  | .lst x, d', v, h, h' => by
    obtain ⟨a, xs, rfl, qa, la⟩ := Has.lst_iff.mp h
    cases d' with
    | non => cases Has.non_iff.mp h'
    | bl b => cases Has.bl_iff.mp h'
    | int b => cases Has.int_iff.mp h'
    | str b => cases Has.str_iff.mp h'
    | lst b =>
      obtain ⟨a', ys, e, qb, lb⟩ := Has.lst_iff.mp h'
      cases e
      cases I.list_inj qa qb
      rw [HasL.inj I la lb]
    | tup b =>
      obtain ⟨a', ys, e, qb, lb⟩ := Has.tup_iff.mp h'
      cases e
      obtain ⟨its, _, p1, _⟩ := I.tuple qb
      obtain ⟨its', _, p2, _⟩ := I.list qa
      exact absurd rfl (SeqAt.ne_of_list_tuple p2.isList p1)
theorem HasL.inj (I : Inv X pins σ H s) : ∀ {ds ds' : List D} {xs : List V}, HasL X.K H ds xs → HasL X.K H ds' xs → ds = ds'
  | [], ds', xs, h, h' => by
    rw [HasL.nil_iff] at h; subst h
    cases ds' with
    | nil => rfl
    | cons d r => obtain ⟨_, _, e, _⟩ := HasL.cons_iff.mp h'; cases e
  | d :: ds, ds', xs, h, h' => by
    obtain ⟨x, r, rfl, h1, h2⟩ := HasL.cons_iff.mp h
    cases ds' with
    | nil => rw [HasL.nil_iff] at h'; cases h'
    | cons d' r' =>
      obtain ⟨x', r'', e, h1', h2'⟩ := HasL.cons_iff.mp h'
      cases e
      rw [Has.inj I h1 h1', HasL.inj I h2 h2']
end
open SeqAt in
mutual
theorem eqAt_of (I : Inv X pins σ H s) : ∀ (d : D) (A : Around) (d' : D) (v v' : V) (u u' : Value), Has X.K H d v → Has X.K H d' v' → RelV v u → RelV v' u' → A.units + dep d < cLine → EqAt A s u u' (eqD d d')
  | .non, A, d', v, v', u, u', h, h', r, r', hu => by
    have hu : A.units < cLine := by omega
    rw [Has.non_iff] at h; subst h
    cases r
    cases d' with
    | non => rw [Has.non_iff] at h'; subst h'; cases r'; exact EqAt.same _
    | bl b => rw [Has.bl_iff] at h'; subst h'; cases r'; exact EqAt.none_bool _
    | int b => rw [Has.int_iff] at h'; subst h'; obtain ⟨t, rfl⟩ := r'; exact EqAt.none_int _ _
    | str b => rw [Has.str_iff] at h'; subst h'; obtain ⟨t, rfl⟩ := r'; exact EqAt.none_str _ _
    | tup b => obtain ⟨a, xs, rfl, q, _⟩ := Has.tup_iff.mp h'; cases r'; obtain ⟨its, _, p, _⟩ := I.tuple q; exact EqAt.none_tuple p hu
    | lst b => obtain ⟨a, xs, rfl, q, _⟩ := Has.lst_iff.mp h'; cases r'; obtain ⟨its, _, p, _⟩ := I.list q; exact EqAt.none_list p.isList hu
  | .bl x, A, d', v, v', u, u', h, h', r, r', hu => by
    have hu : A.units < cLine := by omega
    rw [Has.bl_iff] at h; subst h
    cases r
    cases d' with
    | non => rw [Has.non_iff] at h'; subst h'; cases r'; exact EqAt.bool_none _
    | bl b => rw [Has.bl_iff] at h'; subst h'; cases r'; exact EqAt.bool_bool _ _
    | int b => rw [Has.int_iff] at h'; subst h'; obtain ⟨t, rfl⟩ := r'; exact EqAt.bool_int _ _ _
    | str b => rw [Has.str_iff] at h'; subst h'; obtain ⟨t, rfl⟩ := r'; exact EqAt.bool_str _ _ _
    | tup b => obtain ⟨a, xs, rfl, q, _⟩ := Has.tup_iff.mp h'; cases r'; obtain ⟨its, _, p, _⟩ := I.tuple q; exact EqAt.bool_tuple _ p hu
    | lst b => obtain ⟨a, xs, rfl, q, _⟩ := Has.lst_iff.mp h'; cases r'; obtain ⟨its, _, p, _⟩ := I.list q; exact EqAt.bool_list _ p.isList hu
  | .int x, A, d', v, v', u, u', h, h', r, r', hu => by
    have hu : A.units < cLine := by omega
    rw [Has.int_iff] at h; subst h
    obtain ⟨t, rfl⟩ := r
    cases d' with
    | non => rw [Has.non_iff] at h'; subst h'; cases r'; exact EqAt.int_none _ _
    | bl b => rw [Has.bl_iff] at h'; subst h'; cases r'; exact EqAt.int_bool _ _ _
    | int b => rw [Has.int_iff] at h'; subst h'; obtain ⟨t, rfl⟩ := r'; exact EqAt.int_int _ _ _ _
    | str b => rw [Has.str_iff] at h'; subst h'; obtain ⟨t, rfl⟩ := r'; exact EqAt.int_str _ _ _ _
    | tup b => obtain ⟨a, xs, rfl, q, _⟩ := Has.tup_iff.mp h'; cases r'; obtain ⟨its, _, p, _⟩ := I.tuple q; exact EqAt.int_tuple _ _ p hu
    | lst b => obtain ⟨a, xs, rfl, q, _⟩ := Has.lst_iff.mp h'; cases r'; obtain ⟨its, _, p, _⟩ := I.list q; exact EqAt.int_list _ _ p.isList hu
  | .str x, A, d', v, v', u, u', h, h', r, r', hu => by
    have hu : A.units < cLine := by omega
    rw [Has.str_iff] at h; subst h
    obtain ⟨t, rfl⟩ := r
    cases d' with
    | non => rw [Has.non_iff] at h'; subst h'; cases r'; exact EqAt.str_none _ _
    | bl b => rw [Has.bl_iff] at h'; subst h'; cases r'; exact EqAt.str_bool _ _ _
    | int b => rw [Has.int_iff] at h'; subst h'; obtain ⟨t, rfl⟩ := r'; exact EqAt.str_int _ _ _ _
    | str b => rw [Has.str_iff] at h'; subst h'; obtain ⟨t, rfl⟩ := r'; exact EqAt.str_str _ _ _ _
    | tup b => obtain ⟨a, xs, rfl, q, _⟩ := Has.tup_iff.mp h'; cases r'; obtain ⟨its, _, p, _⟩ := I.tuple q; exact EqAt.str_tuple _ _ p hu
    | lst b => obtain ⟨a, xs, rfl, q, _⟩ := Has.lst_iff.mp h'; cases r'; obtain ⟨its, _, p, _⟩ := I.list q; exact EqAt.str_list _ _ p.isList hu
  | .tup x, A, d', v, v', u, u', h, h', r, r', hu => by
    have hu0 : A.units < cLine := by omega
    obtain ⟨a, xs, rfl, q, l⟩ := Has.tup_iff.mp h
    cases r
    obtain ⟨its, rv, p, _⟩ := I.tuple q
    cases d' with
    | non => rw [Has.non_iff] at h'; subst h'; cases r'; exact EqAt.tuple_none p hu0
    | bl b => rw [Has.bl_iff] at h'; subst h'; cases r'; exact EqAt.tuple_bool _ p hu0
    | int b => rw [Has.int_iff] at h'; subst h'; obtain ⟨t, rfl⟩ := r'; exact EqAt.tuple_int _ _ p hu0
    | str b => rw [Has.str_iff] at h'; subst h'; obtain ⟨t, rfl⟩ := r'; exact EqAt.tuple_str _ _ p hu0
    | tup y =>
      obtain ⟨b, ys, rfl, q', l'⟩ := Has.tup_iff.mp h'
      cases r'
      obtain ⟨its', rv', p', _⟩ := I.tuple q'
      by_cases hab : a = b
      · subst hab
        cases Has.inj I h h'
        rw [eqD_refl]
        exact EqAt.same _
      · refine EqAt.of_refs hab ?_
        have e := RcAt.tuples (A := A) (e := fun j => eqD (x.getD j .non) (y.getD j .non)) p p' hu0 (fun j h1 h2 => eqAtL_of I x A.in1 y xs ys its its' l l' rv rv' (by show A.units + 1 + _ < cLine; unfold dep at hu; omega) j (by simpa using h1) (by simpa using h2))
        unfold eqD
        rw [eqDL_eq, ← l.length, ← l'.length, rv.length, rv'.length]
        simpa using e
    | lst y => obtain ⟨b, ys, rfl, q', l'⟩ := Has.lst_iff.mp h'; cases r'; obtain ⟨its', _, p', _⟩ := I.list q'; exact EqAt.tuple_list p p'.isList hu0
  | .lst x, A, d', v, v', u, u', h, h', r, r', hu => by
    have hu0 : A.units < cLine := by omega
    obtain ⟨a, xs, rfl, q, l⟩ := Has.lst_iff.mp h
    cases r
    obtain ⟨its, rv, p, _⟩ := I.list q
    cases d' with
    | non => rw [Has.non_iff] at h'; subst h'; cases r'; exact EqAt.list_none p.isList hu0
    | bl b => rw [Has.bl_iff] at h'; subst h'; cases r'; exact EqAt.list_bool _ p.isList hu0
    | int b => rw [Has.int_iff] at h'; subst h'; obtain ⟨t, rfl⟩ := r'; exact EqAt.list_int _ _ p.isList hu0
    | str b => rw [Has.str_iff] at h'; subst h'; obtain ⟨t, rfl⟩ := r'; exact EqAt.list_str _ _ p.isList hu0
    | lst y =>
      obtain ⟨b, ys, rfl, q', l'⟩ := Has.lst_iff.mp h'
      cases r'
      obtain ⟨its', rv', p', _⟩ := I.list q'
      by_cases hab : a = b
      · subst hab
        cases Has.inj I h h'
        rw [eqD_refl]
        exact EqAt.same _
      · refine EqAt.of_refs hab ?_
        unfold eqD
        rw [eqDL_eq, ← l.length, ← l'.length, rv.length, rv'.length]
        by_cases hl : its.length = its'.length
        · have e := RcAt.lists (A := A) (e := fun j => eqD (x.getD j .non) (y.getD j .non)) p.isList p'.isList (by simpa using hl) hu0 (fun j h1 h2 => eqAtL_of I x A.in1 y xs ys its its' l l' rv rv' (by show A.units + 1 + _ < cLine; unfold dep at hu; omega) j (by simpa using h1) (by simpa using h2))
          rw [← hl, Nat.min_self]
          simpa using e
        · have e := RcAt.lists_lengths (A := A) p.isList p'.isList (by simpa using hl) hu0
          have : (its.length == its'.length) = false := by simpa using hl
          rw [this, Bool.and_false]
          exact e
    | tup y => obtain ⟨b, ys, rfl, q', l'⟩ := Has.tup_iff.mp h'; cases r'; obtain ⟨its', _, p', _⟩ := I.tuple q'; exact EqAt.list_tuple p.isList p' hu0
theorem eqAtL_of (I : Inv X pins σ H s) : ∀ (ds : List D) (A : Around) (ds' : List D) (xs ys : List V) (us us' : List Value), HasL X.K H ds xs → HasL X.K H ds' ys → Vals xs us → Vals ys us' → A.units + depL ds < cLine →
    ∀ (j : Nat) (h1 : j < us.length) (h2 : j < us'.length), EqAt A s us[j] us'[j] (eqD (ds.getD j .non) (ds'.getD j .non))
  | [], A, ds', xs, ys, us, us', l, l', r, r', hu, j, h1, h2 => by
    rw [HasL.nil_iff] at l; subst l
    cases r
    simp at h1
  | d :: ds, A, ds', xs, ys, us, us', l, l', r, r', hu, j, h1, h2 => by
    obtain ⟨x, xr, rfl, hx, hr⟩ := HasL.cons_iff.mp l
    cases ds' with
    | nil =>
      rw [HasL.nil_iff] at l'; subst l'
      cases r'
      simp at h2
    | cons d' ds' =>
      obtain ⟨y, yr, rfl, hy, hyr⟩ := HasL.cons_iff.mp l'
      cases r with
      | cons r rr =>
        cases r' with
        | cons r' rr' =>
          unfold depL at hu
          cases j with
          | zero => exact eqAt_of I d A d' _ _ _ _ hx hy r r' (by have := Nat.le_max_left (dep d) (depL ds); omega)
          | succ j => exact eqAtL_of I ds A ds' _ _ _ _ hr hyr rr rr' (by have := Nat.le_max_right (dep d) (depL ds); omega) j (by simpa using h1) (by simpa using h2)
end
open SeqAt in
/-- == without the look whether both are one object -/
theorem rcAt_of (I : Inv X pins σ H s) (d : D) (A : Around) (d' : D) (v v' : V) (u u' : Value) (h : Has X.K H d v) (h' : Has X.K H d' v') (r : RelV v u) (r' : RelV v' u') (hu : A.units + dep d < cLine) : RcAt A s u u' (eqD d d') := by
  have hu0 : A.units < cLine := by omega
  cases d with
  | non =>
    rw [Has.non_iff] at h; subst h
    cases r
    cases d' with
    | non => rw [Has.non_iff] at h'; subst h'; cases r'; exact RcAt.none_none
    | bl b => rw [Has.bl_iff] at h'; subst h'; cases r'; exact RcAt.none_bool _
    | int b => rw [Has.int_iff] at h'; subst h'; obtain ⟨t, rfl⟩ := r'; exact RcAt.none_int _ _
    | str b => rw [Has.str_iff] at h'; subst h'; obtain ⟨t, rfl⟩ := r'; exact RcAt.none_str _ _
    | tup b => obtain ⟨a, xs, rfl, q, _⟩ := Has.tup_iff.mp h'; cases r'; obtain ⟨its, _, p, _⟩ := I.tuple q; exact RcAt.none_tuple p hu0
    | lst b => obtain ⟨a, xs, rfl, q, _⟩ := Has.lst_iff.mp h'; cases r'; obtain ⟨its, _, p, _⟩ := I.list q; exact RcAt.none_list p.isList hu0
  | bl x =>
    rw [Has.bl_iff] at h; subst h
    cases r
    cases d' with
    | non => rw [Has.non_iff] at h'; subst h'; cases r'; exact RcAt.bool_none _
    | bl b => rw [Has.bl_iff] at h'; subst h'; cases r'; exact RcAt.bool_bool _ _
    | int b => rw [Has.int_iff] at h'; subst h'; obtain ⟨t, rfl⟩ := r'; exact RcAt.bool_int _ _ _
    | str b => rw [Has.str_iff] at h'; subst h'; obtain ⟨t, rfl⟩ := r'; exact RcAt.bool_str _ _ _
    | tup b => obtain ⟨a, xs, rfl, q, _⟩ := Has.tup_iff.mp h'; cases r'; obtain ⟨its, _, p, _⟩ := I.tuple q; exact RcAt.bool_tuple _ p hu0
    | lst b => obtain ⟨a, xs, rfl, q, _⟩ := Has.lst_iff.mp h'; cases r'; obtain ⟨its, _, p, _⟩ := I.list q; exact RcAt.bool_list _ p.isList hu0
  | int x =>
    rw [Has.int_iff] at h; subst h
    obtain ⟨t, rfl⟩ := r
    cases d' with
    | non => rw [Has.non_iff] at h'; subst h'; cases r'; exact RcAt.int_none _ _
    | bl b => rw [Has.bl_iff] at h'; subst h'; cases r'; exact RcAt.int_bool _ _ _
    | int b => rw [Has.int_iff] at h'; subst h'; obtain ⟨t, rfl⟩ := r'; exact RcAt.int_int _ _ _ _
    | str b => rw [Has.str_iff] at h'; subst h'; obtain ⟨t, rfl⟩ := r'; exact RcAt.int_str _ _ _ _
    | tup b => obtain ⟨a, xs, rfl, q, _⟩ := Has.tup_iff.mp h'; cases r'; obtain ⟨its, _, p, _⟩ := I.tuple q; exact RcAt.int_tuple _ _ p hu0
    | lst b => obtain ⟨a, xs, rfl, q, _⟩ := Has.lst_iff.mp h'; cases r'; obtain ⟨its, _, p, _⟩ := I.list q; exact RcAt.int_list _ _ p.isList hu0
  | str x =>
    rw [Has.str_iff] at h; subst h
    obtain ⟨t, rfl⟩ := r
    cases d' with
    | non => rw [Has.non_iff] at h'; subst h'; cases r'; exact RcAt.str_none _ _
    | bl b => rw [Has.bl_iff] at h'; subst h'; cases r'; exact RcAt.str_bool _ _ _
    | int b => rw [Has.int_iff] at h'; subst h'; obtain ⟨t, rfl⟩ := r'; exact RcAt.str_int _ _ _ _
    | str b => rw [Has.str_iff] at h'; subst h'; obtain ⟨t, rfl⟩ := r'; exact RcAt.str_str _ _ _ _
    | tup b => obtain ⟨a, xs, rfl, q, _⟩ := Has.tup_iff.mp h'; cases r'; obtain ⟨its, _, p, _⟩ := I.tuple q; exact RcAt.str_tuple _ _ p hu0
    | lst b => obtain ⟨a, xs, rfl, q, _⟩ := Has.lst_iff.mp h'; cases r'; obtain ⟨its, _, p, _⟩ := I.list q; exact RcAt.str_list _ _ p.isList hu0
  | tup x =>
    obtain ⟨a, xs, rfl, q, l⟩ := Has.tup_iff.mp h
    cases r
    obtain ⟨its, rv, p, _⟩ := I.tuple q
    cases d' with
    | non => rw [Has.non_iff] at h'; subst h'; cases r'; exact RcAt.tuple_none p hu0
    | bl b => rw [Has.bl_iff] at h'; subst h'; cases r'; exact RcAt.tuple_bool _ p hu0
    | int b => rw [Has.int_iff] at h'; subst h'; obtain ⟨t, rfl⟩ := r'; exact RcAt.tuple_int _ _ p hu0
    | str b => rw [Has.str_iff] at h'; subst h'; obtain ⟨t, rfl⟩ := r'; exact RcAt.tuple_str _ _ p hu0
    | tup y =>
      obtain ⟨b, ys, rfl, q', l'⟩ := Has.tup_iff.mp h'
      cases r'
      obtain ⟨its', rv', p', _⟩ := I.tuple q'
      have e := RcAt.tuples (A := A) (e := fun j => eqD (x.getD j .non) (y.getD j .non)) p p' hu0 (fun j h1 h2 => eqAtL_of I x A.in1 y xs ys its its' l l' rv rv' (by show A.units + 1 + _ < cLine; unfold dep at hu; omega) j (by simpa using h1) (by simpa using h2))
      unfold eqD
      rw [eqDL_eq, ← l.length, ← l'.length, rv.length, rv'.length]
      simpa using e
    | lst y => obtain ⟨b, ys, rfl, q', l'⟩ := Has.lst_iff.mp h'; cases r'; obtain ⟨its', _, p', _⟩ := I.list q'; exact RcAt.tuple_list p p'.isList hu0
  | lst x =>
    obtain ⟨a, xs, rfl, q, l⟩ := Has.lst_iff.mp h
    cases r
    obtain ⟨its, rv, p, _⟩ := I.list q
    cases d' with
    | non => rw [Has.non_iff] at h'; subst h'; cases r'; exact RcAt.list_none p.isList hu0
    | bl b => rw [Has.bl_iff] at h'; subst h'; cases r'; exact RcAt.list_bool _ p.isList hu0
    | int b => rw [Has.int_iff] at h'; subst h'; obtain ⟨t, rfl⟩ := r'; exact RcAt.list_int _ _ p.isList hu0
    | str b => rw [Has.str_iff] at h'; subst h'; obtain ⟨t, rfl⟩ := r'; exact RcAt.list_str _ _ p.isList hu0
    | lst y =>
      obtain ⟨b, ys, rfl, q', l'⟩ := Has.lst_iff.mp h'
      cases r'
      obtain ⟨its', rv', p', _⟩ := I.list q'
      unfold eqD
      rw [eqDL_eq, ← l.length, ← l'.length, rv.length, rv'.length]
      by_cases hl : its.length = its'.length
      · have e := RcAt.lists (A := A) (e := fun j => eqD (x.getD j .non) (y.getD j .non)) p.isList p'.isList (by simpa using hl) hu0 (fun j h1 h2 => eqAtL_of I x A.in1 y xs ys its its' l l' rv rv' (by show A.units + 1 + _ < cLine; unfold dep at hu; omega) j (by simpa using h1) (by simpa using h2))
        rw [← hl, Nat.min_self]
        simpa using e
      · have e := RcAt.lists_lengths (A := A) p.isList p'.isList (by simpa using hl) hu0
        have : (its.length == its'.length) = false := by simpa using hl
        rw [this, Bool.and_false]
        exact e
    | tup y => obtain ⟨b, ys, rfl, q', l'⟩ := Has.tup_iff.mp h'; cases r'; obtain ⟨its', _, p', _⟩ := I.tuple q'; exact RcAt.list_tuple p.isList p' hu0
open SeqAt in
/-- != -/
theorem rcNe_of (I : Inv X pins σ H s) (d : D) (A : Around) (d' : D) (v v' : V) (u u' : Value) (h : Has X.K H d v) (h' : Has X.K H d' v') (r : RelV v u) (r' : RelV v' u') (hu : A.units + dep d < cLine) : RcNeAt A s u u' (!eqD d d') := by
  have hu0 : A.units < cLine := by omega
  cases d with
  | non =>
    rw [Has.non_iff] at h; subst h
    cases r
    cases d' with
    | non => rw [Has.non_iff] at h'; subst h'; cases r'; exact RcNeAt.none_none
    | bl b => rw [Has.bl_iff] at h'; subst h'; cases r'; exact RcNeAt.none_bool _
    | int b => rw [Has.int_iff] at h'; subst h'; obtain ⟨t, rfl⟩ := r'; exact RcNeAt.none_int _ _
    | str b => rw [Has.str_iff] at h'; subst h'; obtain ⟨t, rfl⟩ := r'; exact RcNeAt.none_str _ _
    | tup b => obtain ⟨a, xs, rfl, q, _⟩ := Has.tup_iff.mp h'; cases r'; obtain ⟨its, _, p, _⟩ := I.tuple q; exact RcNeAt.none_tuple p hu0
    | lst b => obtain ⟨a, xs, rfl, q, _⟩ := Has.lst_iff.mp h'; cases r'; obtain ⟨its, _, p, _⟩ := I.list q; exact RcNeAt.none_list p.isList hu0
  | bl x =>
    rw [Has.bl_iff] at h; subst h
    cases r
    cases d' with
    | non => rw [Has.non_iff] at h'; subst h'; cases r'; exact RcNeAt.bool_none _
    | bl b => rw [Has.bl_iff] at h'; subst h'; cases r'; exact RcNeAt.bool_bool _ _
    | int b => rw [Has.int_iff] at h'; subst h'; obtain ⟨t, rfl⟩ := r'; exact RcNeAt.bool_int _ _ _
    | str b => rw [Has.str_iff] at h'; subst h'; obtain ⟨t, rfl⟩ := r'; exact RcNeAt.bool_str _ _ _
    | tup b => obtain ⟨a, xs, rfl, q, _⟩ := Has.tup_iff.mp h'; cases r'; obtain ⟨its, _, p, _⟩ := I.tuple q; exact RcNeAt.bool_tuple _ p hu0
    | lst b => obtain ⟨a, xs, rfl, q, _⟩ := Has.lst_iff.mp h'; cases r'; obtain ⟨its, _, p, _⟩ := I.list q; exact RcNeAt.bool_list _ p.isList hu0
  | int x =>
    rw [Has.int_iff] at h; subst h
    obtain ⟨t, rfl⟩ := r
    cases d' with
    | non => rw [Has.non_iff] at h'; subst h'; cases r'; exact RcNeAt.int_none _ _
    | bl b => rw [Has.bl_iff] at h'; subst h'; cases r'; exact RcNeAt.int_bool _ _ _
    | int b => rw [Has.int_iff] at h'; subst h'; obtain ⟨t, rfl⟩ := r'; exact RcNeAt.int_int _ _ _ _
    | str b => rw [Has.str_iff] at h'; subst h'; obtain ⟨t, rfl⟩ := r'; exact RcNeAt.int_str _ _ _ _
    | tup b => obtain ⟨a, xs, rfl, q, _⟩ := Has.tup_iff.mp h'; cases r'; obtain ⟨its, _, p, _⟩ := I.tuple q; exact RcNeAt.int_tuple _ _ p hu0
    | lst b => obtain ⟨a, xs, rfl, q, _⟩ := Has.lst_iff.mp h'; cases r'; obtain ⟨its, _, p, _⟩ := I.list q; exact RcNeAt.int_list _ _ p.isList hu0
  | str x =>
    rw [Has.str_iff] at h; subst h
    obtain ⟨t, rfl⟩ := r
    cases d' with
    | non => rw [Has.non_iff] at h'; subst h'; cases r'; exact RcNeAt.str_none _ _
    | bl b => rw [Has.bl_iff] at h'; subst h'; cases r'; exact RcNeAt.str_bool _ _ _
    | int b => rw [Has.int_iff] at h'; subst h'; obtain ⟨t, rfl⟩ := r'; exact RcNeAt.str_int _ _ _ _
    | str b => rw [Has.str_iff] at h'; subst h'; obtain ⟨t, rfl⟩ := r'; exact RcNeAt.str_str _ _ _ _
    | tup b => obtain ⟨a, xs, rfl, q, _⟩ := Has.tup_iff.mp h'; cases r'; obtain ⟨its, _, p, _⟩ := I.tuple q; exact RcNeAt.str_tuple _ _ p hu0
    | lst b => obtain ⟨a, xs, rfl, q, _⟩ := Has.lst_iff.mp h'; cases r'; obtain ⟨its, _, p, _⟩ := I.list q; exact RcNeAt.str_list _ _ p.isList hu0
  | tup x =>
    obtain ⟨a, xs, rfl, q, l⟩ := Has.tup_iff.mp h
    cases r
    obtain ⟨its, rv, p, _⟩ := I.tuple q
    cases d' with
    | non => rw [Has.non_iff] at h'; subst h'; cases r'; exact RcNeAt.tuple_none p hu0
    | bl b => rw [Has.bl_iff] at h'; subst h'; cases r'; exact RcNeAt.tuple_bool _ p hu0
    | int b => rw [Has.int_iff] at h'; subst h'; obtain ⟨t, rfl⟩ := r'; exact RcNeAt.tuple_int _ _ p hu0
    | str b => rw [Has.str_iff] at h'; subst h'; obtain ⟨t, rfl⟩ := r'; exact RcNeAt.tuple_str _ _ p hu0
    | tup y =>
      obtain ⟨b, ys, rfl, q', l'⟩ := Has.tup_iff.mp h'
      cases r'
      obtain ⟨its', rv', p', _⟩ := I.tuple q'
      have e := RcNeAt.tuples (A := A) (e := fun j => eqD (x.getD j .non) (y.getD j .non)) p p' hu0 (fun j h1 h2 => eqAtL_of I x A.in1 y xs ys its its' l l' rv rv' (by show A.units + 1 + _ < cLine; unfold dep at hu; omega) j (by simpa using h1) (by simpa using h2))
      unfold eqD
      rw [eqDL_eq, ← l.length, ← l'.length, rv.length, rv'.length]
      simpa using e
    | lst y => obtain ⟨b, ys, rfl, q', l'⟩ := Has.lst_iff.mp h'; cases r'; obtain ⟨its', _, p', _⟩ := I.list q'; exact RcNeAt.tuple_list p p'.isList hu0
  | lst x =>
    obtain ⟨a, xs, rfl, q, l⟩ := Has.lst_iff.mp h
    cases r
    obtain ⟨its, rv, p, _⟩ := I.list q
    cases d' with
    | non => rw [Has.non_iff] at h'; subst h'; cases r'; exact RcNeAt.list_none p.isList hu0
    | bl b => rw [Has.bl_iff] at h'; subst h'; cases r'; exact RcNeAt.list_bool _ p.isList hu0
    | int b => rw [Has.int_iff] at h'; subst h'; obtain ⟨t, rfl⟩ := r'; exact RcNeAt.list_int _ _ p.isList hu0
    | str b => rw [Has.str_iff] at h'; subst h'; obtain ⟨t, rfl⟩ := r'; exact RcNeAt.list_str _ _ p.isList hu0
    | lst y =>
      obtain ⟨b, ys, rfl, q', l'⟩ := Has.lst_iff.mp h'
      cases r'
      obtain ⟨its', rv', p', _⟩ := I.list q'
      unfold eqD
      rw [eqDL_eq, ← l.length, ← l'.length, rv.length, rv'.length]
      by_cases hl : its.length = its'.length
      · have e := RcNeAt.lists (A := A) (e := fun j => eqD (x.getD j .non) (y.getD j .non)) p.isList p'.isList (by simpa using hl) hu0 (fun j h1 h2 => eqAtL_of I x A.in1 y xs ys its its' l l' rv rv' (by show A.units + 1 + _ < cLine; unfold dep at hu; omega) j (by simpa using h1) (by simpa using h2))
        rw [← hl, Nat.min_self]
        simpa using e
      · have e := RcNeAt.lists_lengths (A := A) p.isList p'.isList (by simpa using hl) hu0
        have : (its.length == its'.length) = false := by simpa using hl
        rw [this, Bool.and_false]
        exact e
    | tup y => obtain ⟨b, ys, rfl, q', l'⟩ := Has.tup_iff.mp h'; cases r'; obtain ⟨its', _, p', _⟩ := I.tuple q'; exact RcNeAt.list_tuple p.isList p' hu0
end
end FL
set_option Elab.async false
set_option linter.all false
set_option maxRecDepth 100000
set_option maxHeartbeats 4000000
namespace FL
open PySem PySem.Spec PyProof.Rows L2
theorem HasR.full {K : PySem.W.Frag} {H₀ Hf₀ H Hf : Hp} {σ : St} {ρ : Rho} {d : D} {v : V} (h : HasR K Hf σ ρ d v) (R : Rep K H₀ Hf₀ σ ρ H Hf) : Has K H d v := by
  rcases h with h | ⟨i, ds, rfl, e1, e2⟩
  · exact h.mono R.sf
  · obtain ⟨a, p1, ⟨xs, p2, p3⟩, _⟩ := R.ow i _ e1 rfl
    rw [e2] at p1; cases p1
    exact Has.lst_iff.mpr ⟨a, xs, rfl, SqL.of p2, p3.mono R.sf⟩
section
variable {X : Cx} {e a b c : Expr} {es : List Expr} {f g h : FE} {fa ga : FA} {ft gt : FT} {pos : Pos} {t t' : TE} {kk : Nat}
def rEqD (K : PySem.W.Frag) : R2 := fun x y H Q => ∃ d d', Has K H d x ∧ Has K H d' y ∧ dep d ≤ 100 ∧ Q (.bl (eqD d d')) H
def rNeD (K : PySem.W.Frag) : R2 := fun x y H Q => ∃ d d', Has K H d x ∧ Has K H d' y ∧ dep d ≤ 100 ∧ Q (.bl (!eqD d d')) H
theorem op_eqD (hr : Room kk X.A) : OpR X (compareOp .Eq) (rEqD X.K) := by
  intro pins s σ H x y v u Q I rx ry h
  obtain ⟨d, d', h1, h2, h3, q⟩ := h
  exact rcAt_of I d X.A d' x y v u h1 h2 rx ry (by have := hr.un; omega) X.prog X.w X.xe _ ⟨.bl _, H, I, rfl, q⟩
theorem op_neD (hr : Room kk X.A) : OpR X (compareOp .NotEq) (rNeD X.K) := by
  intro pins s σ H x y v u Q I rx ry h
  obtain ⟨d, d', h1, h2, h3, q⟩ := h
  exact rcNe_of I d X.A d' x y v u h1 h2 rx ry (by have := hr.un; omega) X.prog X.w X.xe _ ⟨.bl _, H, I, rfl, q⟩
def eqF : D → D → Option D := fun x y => if dep x ≤ 100 then some (.bl (eqD x y)) else none
def neF : D → D → Option D := fun x y => if dep x ≤ 100 then some (.bl (!eqD x y)) else none
theorem opD_eq : OpD X (rEqD X.K) eqF := by
  intro σ ρ H₀ Hf₀ H Hf x y dx dy d Q R hx hy hφ k
  unfold eqF at hφ
  split at hφ
  · cases hφ
    exact ⟨dx, dy, hx.full R, hy.full R, by assumption, k _ _ _ R sameR sameR (Has.bl_iff.mpr rfl)⟩
  · cases hφ
theorem opD_ne : OpD X (rNeD X.K) neF := by
  intro σ ρ H₀ Hf₀ H Hf x y dx dy d Q R hx hy hφ k
  unfold neF at hφ
  split at hφ
  · cases hφ
    exact ⟨dx, dy, hx.full R, hy.full R, by assumption, k _ _ _ R sameR sameR (Has.bl_iff.mpr rfl)⟩
  · cases hφ
theorem d_eq (hr : Room kk X.A) (ha : DR X a f) (hb : DR X b g) : DE X (.Compare a [.Eq] [b] pos) (bind2 eqF f g) := d_cmp (op_eqD hr) opD_eq ha hb (nomark _)
theorem dt_eq (hr : Room kk X.A) (ha : DR X a f) (hb : DR X b g) : DT X (.Compare a [.Eq] [b] pos) (blF (bind2 eqF f g)) := pt_of_cmp (op_eqD hr) opD_eq ha hb (nomark _)
theorem dt_ne (hr : Room kk X.A) (ha : DR X a f) (hb : DR X b g) : DT X (.Compare a [.NotEq] [b] pos) (blF (bind2 neF f g)) := pt_of_cmp (op_neD hr) opD_ne ha hb (nomark _)
def FnR (X : Cx) (r : List V → Hp → VK → Prop) (φ : List D → Option D) : Prop :=
  ∀ (σ : St) (ρ : Rho) (H₀ Hf₀ H Hf : Hp) (xs : List V) (ds : List D) (d : D) (Q : VK), Rep X.K H₀ Hf₀ σ ρ H Hf → HasRL X.K Hf σ ρ ds xs → φ ds = some d →
    (∀ v H' Hf', Rep X.K H₀ Hf₀ σ ρ H' Hf' → Same H H' → Same Hf Hf' → Has X.K Hf' d v → Q v H') → r xs H Q
def appF (φ : List D → Option D) (fa : FA) : FE := fun ρ => (fa ρ).bind φ
theorem bindA_some {α : Type} {f : FA} {k : List D → Option α} {ρ : Rho} {r : α} (h : (f ρ).bind k = some r) : ∃ b, f ρ = some b ∧ k b = some r := by
  cases hf : f ρ with
  | none => rw [hf] at h; cases h
  | some x => rw [hf] at h; exact ⟨x, rfl, h⟩
theorem tCB_of {r : List V → Hp → VK → Prop} {φ : List D → Option D} (hφ : FnR X r φ) (σ : St) (H : Hp) (Q : VK) (hh : tF X.K (appF φ fa) σ H Q) : tCB r (tAR X.K fa) σ H Q := by
  obtain ⟨H₀, Hf₀, ρ, Hf, d, R, q, k⟩ := hh
  obtain ⟨ds, e1, e2⟩ := bindA_some q
  exact ⟨H₀, Hf₀, ρ, Hf, ds, R, e1, fun vs H1 Hf1 R1 s1 t1 h1 => hφ σ ρ H₀ Hf₀ H1 Hf1 vs ds d Q R1 h1 e2 fun v H2 Hf2 R2 s2 t2 h2 => k _ _ _ R2 (s1.trans s2) (t1.trans t2) h2⟩
theorem d_callB {id : String} {x : Str} {p : Pos} {r : List V → Hp → VK → Prop} {φ : List D → Option D} (hc : CallR X (.builtin id) r) (hφ : FnR X r φ) (hg : Gl X x) (hm : X.mg x = none) (hv : bootBuiltins x = some (.builtin id)) (ha : DAR X (e :: es) fa)
    (hn : x ≠ "__name__" := by decide) (hdb : (x == ("__debug__" : Str)) = false := by decide)
    (he : starEach (e :: es) X.env = (false, eval e X.env) :: starEach es X.env := by rfl) (hpl : (backTo pos (starEach es X.env)).any (·.1) = false := by rfl) : DE X (.Call (.Name x p) (e :: es) [] pos) (appF φ fa) :=
  pe_imp (pe_callB hc hg hm hv ha hn hdb he hpl) (tCB_of hφ)
theorem d_callTy {T : String} {x : Str} {p : Pos} {r : List V → Hp → VK → Prop} {φ : List D → Option D} (hc : CallR X (.type T) r) (hφ : FnR X r φ) (hg : Gl X x) (hm : X.mg x = none) (hv : bootBuiltins x = some (.type T)) (ha : DAR X (e :: es) fa)
    (hn : x ≠ "__name__" := by decide) (hdb : (x == ("__debug__" : Str)) = false := by decide)
    (he : starEach (e :: es) X.env = (false, eval e X.env) :: starEach es X.env := by rfl) (hpl : (backTo pos (starEach es X.env)).any (·.1) = false := by rfl) : DE X (.Call (.Name x p) (e :: es) [] pos) (appF φ fa) :=
  pe_imp (pe_callTy hc hg hm hv ha hn hdb he hpl) (tCB_of hφ)
theorem HasRL.one {K : PySem.W.Frag} {Hf : Hp} {σ : St} {ρ : Rho} {d : D} {xs : List V} (h : HasRL K Hf σ ρ [d] xs) : ∃ v, xs = [v] ∧ HasR K Hf σ ρ d v := by
  cases h with
  | cons h1 h2 => cases h2; exact ⟨_, rfl, h1⟩
theorem HasRL.two {K : PySem.W.Frag} {Hf : Hp} {σ : St} {ρ : Rho} {d d' : D} {xs : List V} (h : HasRL K Hf σ ρ [d, d'] xs) : ∃ v v', xs = [v, v'] ∧ HasR K Hf σ ρ d v ∧ HasR K Hf σ ρ d' v' := by
  cases h with
  | cons h1 h2 =>
    cases h2 with
    | cons h2 h3 => cases h3; exact ⟨_, _, rfl, h1, h2⟩
def lenD : List D → Option D
  | [.lst ds] => some (.int ds.length)
  | [.tup ds] => some (.int ds.length)
  | [.str x] => if x.length ≤ sizeLine then some (.int x.length) else none
  | _ => none
theorem call_lenG : CallR X (.builtin "len") (fun xs H Q => (∃ p ys, xs = [.ref p] ∧ (SqL X.K H p ys ∨ SqT X.K H p ys) ∧ Q (.int ys.length) H) ∨ (∃ z, xs = [.str z] ∧ z.length ≤ sizeLine ∧ Q (.int z.length) H)) := CallR.or call_len_seq call_len_str
theorem fnR_len : FnR X (fun xs H Q => (∃ p ys, xs = [.ref p] ∧ (SqL X.K H p ys ∨ SqT X.K H p ys) ∧ Q (.int ys.length) H) ∨ (∃ z, xs = [.str z] ∧ z.length ≤ sizeLine ∧ Q (.int z.length) H)) lenD := by
  intro σ ρ H₀ Hf₀ H Hf xs ds d Q R hx hφ k
  unfold lenD at hφ
  split at hφ
  · cases hφ
    obtain ⟨v, rfl, hv⟩ := hx.one
    obtain ⟨a, ys, rfl, q, l⟩ := hv.lst R
    exact .inl ⟨a, ys, rfl, .inl q, k _ _ _ R sameR sameR (by rw [← l.length]; exact Has.int_iff.mpr rfl)⟩
  · cases hφ
    obtain ⟨v, rfl, hv⟩ := hx.one
    obtain ⟨a, ys, rfl, q, l⟩ := hv.tup R
    exact .inl ⟨a, ys, rfl, .inr q, k _ _ _ R sameR sameR (by rw [← l.length]; exact Has.int_iff.mpr rfl)⟩
  · split at hφ
    · cases hφ
      obtain ⟨v, rfl, hv⟩ := hx.one
      exact .inr ⟨_, by rw [hv.str], by assumption, k _ _ _ R sameR sameR (Has.int_iff.mpr rfl)⟩
    · cases hφ
  · cases hφ
def absD : List D → Option D
  | [.int i] => some (.int (if i < 0 then -i else i))
  | _ => none
def maxD : List D → Option D
  | [.int i, .int j] => some (.int (if j > i then j else i))
  | _ => none
def minD : List D → Option D
  | [.int i, .int j] => some (.int (if j < i then j else i))
  | _ => none
theorem fnR_max : FnR X (fun xs H Q => ∃ i j, xs = [.int i, .int j] ∧ Q (.int (if j > i then j else i)) H) maxD := by
  intro σ ρ H₀ Hf₀ H Hf xs ds d Q R hx hφ k
  unfold maxD at hφ
  split at hφ
  · cases hφ
    obtain ⟨v, v', rfl, hv, hv'⟩ := hx.two
    exact ⟨_, _, by rw [hv.int, hv'.int], k _ _ _ R sameR sameR (Has.int_iff.mpr rfl)⟩
  · cases hφ
theorem fnR_min : FnR X (fun xs H Q => ∃ i j, xs = [.int i, .int j] ∧ Q (.int (if j < i then j else i)) H) minD := by
  intro σ ρ H₀ Hf₀ H Hf xs ds d Q R hx hφ k
  unfold minD at hφ
  split at hφ
  · cases hφ
    obtain ⟨v, v', rfl, hv, hv'⟩ := hx.two
    exact ⟨_, _, by rw [hv.int, hv'.int], k _ _ _ R sameR sameR (Has.int_iff.mpr rfl)⟩
  · cases hφ
def strD : List D → Option D
  | [.int i] => if i.natAbs.log2 < 1920 then some (.str (toString i)) else none
  | _ => none
theorem fnR_str : FnR X (fun xs H Q => ∃ i, xs = [.int i] ∧ i.natAbs.log2 < 1920 ∧ Q (.str (toString i)) H) strD := by
  intro σ ρ H₀ Hf₀ H Hf xs ds d Q R hx hφ k
  unfold strD at hφ
  split at hφ
  · split at hφ
    · cases hφ
      obtain ⟨v, rfl, hv⟩ := hx.one
      exact ⟨_, by rw [hv.int], by assumption, k _ _ _ R sameR sameR (Has.str_iff.mpr rfl)⟩
    · cases hφ
  · cases hφ
def seqF (F G : FS) : FS := fun ρ => (F ρ).bind fun o => match o with
  | .nx ρ' => G ρ'
  | o => some o
def nxF : FS := fun ρ => some (.nx ρ)
variable {st : Stmt} {sts rest : List Stmt} {F G : FS}
theorem bindO_some {α : Type} {F : FS} {k : Out → Option α} {ρ : Rho} {r : α} (h : (F ρ).bind k = some r) : ∃ b, F ρ = some b ∧ k b = some r := by
  cases hf : F ρ with
  | none => rw [hf] at h; cases h
  | some x => rw [hf] at h; exact ⟨x, rfl, h⟩
theorem dss_nil : DSs X [] nxF := pss_imp pss_nil fun D' σ H ⟨H₀, Hf₀, ρ, Hf, o, R, q, k⟩ => by cases q; exact k _ _ _ R sameR
theorem dss_cons (h1 : DS X st F) (h2 : DSs X rest G) : DSs X (st :: rest) (seqF F G) := pss_imp (pss_cons h1 h2) fun D' σ H ⟨H₀, Hf₀, ρ, Hf, o, R, q, k⟩ => by
  obtain ⟨o1, e1, e2⟩ := bindO_some q
  refine ⟨H₀, Hf₀, ρ, Hf, o1, R, e1, ?_⟩
  cases o1 with
  | nx ρ' =>
    intro σ' H' Hf' R' s'
    refine ⟨H₀, Hf₀, ρ', Hf', o, R', e2, ?_⟩
    cases o with
    | nx _ => exact fun σ2 H2 Hf2 R2 s2 => k _ _ _ R2 (s'.trans s2)
    | bk _ => exact fun σ2 H2 Hf2 R2 s2 => k _ _ _ R2 (s'.trans s2)
    | ct _ => exact fun σ2 H2 Hf2 R2 s2 => k _ _ _ R2 (s'.trans s2)
    | rt _ => exact fun v σ2 ρ2 H2 Hf2 R2 s2 h2 => k _ _ _ _ _ R2 (s'.trans s2) h2
  | bk _ => cases e2; exact k
  | ct _ => cases e2; exact k
  | rt _ => cases e2; exact k
theorem dss_one (h1 : DS X st F) : DSs X [st] F := pss_one h1
def retF (f : FE) : FS := fun ρ => (f ρ).bind fun d => some (.rt d)
theorem ds_ret (he : DE X e f) : DS X (.Return (some e) pos) (retF f) := ps_imp (ps_ret he) fun D' σ H ⟨H₀, Hf₀, ρ, Hf, o, R, q, k⟩ => by
  obtain ⟨d, e1, e2⟩ := bindV_some q
  cases e2
  exact ⟨H₀, Hf₀, ρ, Hf, d, R, e1, fun v H1 Hf1 R1 s1 t1 h1 => k v σ ρ H1 Hf1 R1 t1 h1⟩
def ifS (c : FT) (F G : FS) : FS := fun ρ => (c ρ).bind fun b => if b = true then F ρ else G ρ
theorem EndO.mono {K : PySem.W.Frag} {H₀ Hf₀ Hf Hf1 : Hp} {D' : Ends} {o : Out} (k : EndO K H₀ Hf₀ Hf D' o) (t : Same Hf Hf1) : EndO K H₀ Hf₀ Hf1 D' o := by
  cases o with
  | nx _ => exact fun σ2 H2 Hf2 R2 s2 => k _ _ _ R2 (t.trans s2)
  | bk _ => exact fun σ2 H2 Hf2 R2 s2 => k _ _ _ R2 (t.trans s2)
  | ct _ => exact fun σ2 H2 Hf2 R2 s2 => k _ _ _ R2 (t.trans s2)
  | rt _ => exact fun v σ2 ρ2 H2 Hf2 R2 s2 h2 => k _ _ _ _ _ R2 (t.trans s2) h2
theorem ds_if {a b : List Stmt} (hc : DT X c ft) (ha : DSs X a F) (hb : DSs X b G) : DS X (.If c a b pos) (ifS ft F G) := ps_imp (ps_if hc ha hb) fun D' σ H ⟨H₀, Hf₀, ρ, Hf, o, R, q, k⟩ => by
  obtain ⟨x, e1, e2⟩ := bindT_some q
  refine ⟨H₀, Hf₀, ρ, Hf, x, R, e1, fun H1 Hf1 R1 s1 t1 => ?_⟩
  cases x with
  | true => exact iteT ⟨H₀, Hf₀, ρ, Hf1, o, R1, e2, k.mono t1⟩
  | false => exact iteF ⟨H₀, Hf₀, ρ, Hf1, o, R1, e2, k.mono t1⟩
def asgF (i : Nat) (f : FE) : FS := fun ρ => (f ρ).bind fun d => some (.nx (ρ.set i (.fr d)))
theorem ds_asg {x : Str} {pos' : Pos} (i : Nat) (hN : X.N.Nodup) (he : DE X e f) (hi : X.N[i]? = some x := by rfl) (hx : Loc X.env.scope x := by first | exact Or.inl rfl | exact Or.inr rfl) (hs : swapsWith e (some (.Name x pos')) pos.line X.env = pure false := by rfl)
    (hf : X.fn x = true ∨ X.env.scope.names.lookup x = some .local := by first | exact .inl rfl | exact .inr rfl | assumption) : DS X (.Assign [.Name x pos'] e pos) (asgF i f) :=
  ps_imp (ps_set hN hi hx he hs hf) fun D' σ H ⟨H₀, Hf₀, ρ, Hf, o, R, q, k⟩ => by
    obtain ⟨d, e1, e2⟩ := bindV_some q
    cases e2
    exact ⟨H₀, Hf₀, ρ, Hf, d, R, e1, fun v H1 Hf1 R1 s1 t1 h1 => k _ _ _ (R1.set i h1) t1⟩
def asgN (i : Nat) (f : FA) : FS := fun ρ => (f ρ).bind fun ds => some (.nx (ρ.set i (.ol ds)))
theorem ds_asgN {x : Str} {pos' : Pos} (i : Nat) (hN : X.N.Nodup) (he : DN X e fa) (hi : X.N[i]? = some x := by rfl) (hx : Loc X.env.scope x := by first | exact Or.inl rfl | exact Or.inr rfl) (hs : swapsWith e (some (.Name x pos')) pos.line X.env = pure false := by rfl)
    (hf : X.fn x = true ∨ X.env.scope.names.lookup x = some .local := by first | exact .inl rfl | exact .inr rfl | assumption) : DS X (.Assign [.Name x pos'] e pos) (asgN i fa) :=
  ps_imp (ps_set hN hi hx he hs hf) fun D' σ H ⟨H₀, Hf₀, ρ, Hf, o, R, q, k⟩ => by
    obtain ⟨d, e1, e2⟩ := bindA_some q
    cases e2
    refine ⟨H₀, Hf₀, ρ, Hf, d, R, e1, fun a xs H1 Hf1 R1 s1 t1 h1 ha hn hh => k _ _ _ (R1.setOwn i rfl ⟨xs, ha, h1⟩ hn (R.s0.free hh) ?_) t1⟩
    intro j sl z o z'
    obtain ⟨b, p1, p2, _⟩ := R.ow j sl z o
    rw [p1] at z'; cases z'
    obtain ⟨ob, q'⟩ := p2.there o
    rw [q'] at hh; cases hh
def frz (i : Nat) (ρ : Rho) : Option Rho := match ρ[i]? with
  | some (.ol ds) => some (ρ.set i (.fr (.lst ds)))
  | some (.fr _) => some ρ
  | _ => none
def frzF (i : Nat) (F : FS) : FS := fun ρ => (frz i ρ).bind F
theorem dss_frz (i : Nat) (h : DSs X sts F) : DSs X sts (frzF i F) := pss_imp h fun D' σ H ⟨H₀, Hf₀, ρ, Hf, o, R, q, k⟩ => by
  unfold frzF frz at q
  split at q
  · rename_i ds e
    obtain ⟨Hf', sm, R'⟩ := R.freeze e
    exact ⟨H₀, Hf₀, _, Hf', o, R', q, k.mono sm⟩
  · exact ⟨H₀, Hf₀, _, Hf, o, R, q, k⟩
  · cases q
abbrev FG := D → Rho → Option Rho
def tG (K : PySem.W.Frag) (γ : FG) : TG := fun v σ H Q => ∃ H₀ Hf₀ ρ Hf d ρ', Rep K H₀ Hf₀ σ ρ H Hf ∧ Has K Hf d v ∧ γ d ρ = some ρ' ∧ ∀ σ' H' Hf', Rep K H₀ Hf₀ σ' ρ' H' Hf' → Same Hf Hf' → Q σ' H'
abbrev FGs := List D → Rho → Option Rho
def tGs (K : PySem.W.Frag) (γ : FGs) : TGs := fun vs σ H Q => ∃ H₀ Hf₀ ρ Hf ds ρ', Rep K H₀ Hf₀ σ ρ H Hf ∧ HasL K Hf ds vs ∧ γ ds ρ = some ρ' ∧ ∀ σ' H' Hf', Rep K H₀ Hf₀ σ' ρ' H' Hf' → Same Hf Hf' → Q σ' H'
def DG (X : Cx) (tg : Expr) (γ : FG) : Prop := PG X tg (tG X.K γ)
def DGs (X : Cx) (ts : List Expr) (γ : FGs) : Prop := PGs X ts (tGs X.K γ)
theorem pg_imp {tg : Expr} {t t' : TG} (h : PG X tg t) (i : ∀ v σ H Q, t' v σ H Q → t v σ H Q) : PG X tg t' := fun pins s σ H v u Q I r hw => h pins s σ H v u Q I r (i _ _ _ _ hw)
theorem pgs_imp {ts : List Expr} {t t' : TGs} (h : PGs X ts t) (i : ∀ v σ H Q, t' v σ H Q → t v σ H Q) : PGs X ts t' := fun pins s σ H v u Q I r hw => h pins s σ H v u Q I r (i _ _ _ _ hw)
def nameG (i : Nat) : FG := fun d ρ => some (ρ.set i (.fr d))
theorem dg_name {x : Str} (i : Nat) (hN : X.N.Nodup) (hi : X.N[i]? = some x := by rfl) (hx : Loc X.env.scope x := by first | exact Or.inl rfl | exact Or.inr rfl) (hf : X.fn x = true ∨ X.env.scope.names.lookup x = some .local := by first | exact .inl rfl | exact .inr rfl | assumption) : DG X (.Name x pos) (nameG i) :=
  pg_imp (pg_name hN hi hx hf) fun v σ H Q ⟨H₀, Hf₀, ρ, Hf, d, ρ', R, h, q, k⟩ => by
    cases q
    exact k _ _ _ (R.set i h) sameR
def nilG : FGs := fun ds ρ => match ds with
  | [] => some ρ
  | _ => none
def consG (γ : FG) (δ : FGs) : FGs := fun ds ρ => match ds with
  | d :: r => (γ d ρ).bind fun ρ' => δ r ρ'
  | _ => none
theorem dgs_nil : DGs X [] nilG := pgs_imp pgs_nil fun v σ H Q ⟨H₀, Hf₀, ρ, Hf, ds, ρ', R, h, q, k⟩ => by
  cases ds with
  | nil => cases q; exact ⟨HasL.nil_iff.mp h, k _ _ _ R sameR⟩
  | cons _ _ => cases q
theorem dgs_cons {γ : FG} {δ : FGs} (h1 : DG X e γ) (h2 : DGs X es δ) (hs : (assignEach (e :: es) X.env).map (·.2) = assign e X.env :: (assignEach es X.env).map (·.2) := by rfl) : DGs X (e :: es) (consG γ δ) :=
  pgs_imp (pgs_cons h1 h2 hs) fun v σ H Q ⟨H₀, Hf₀, ρ, Hf, ds, ρ', R, h, q, k⟩ => by
    cases ds with
    | nil => cases q
    | cons d r =>
      obtain ⟨x, xr, rfl, hx, hr⟩ := HasL.cons_iff.mp h
      have q : (γ d ρ).bind (fun ρ' => δ r ρ') = some ρ' := q
      cases e1 : γ d ρ with
      | none => rw [e1] at q; cases q
      | some ρ1 =>
        rw [e1] at q
        exact ⟨x, xr, rfl, H₀, Hf₀, ρ, Hf, d, ρ1, R, hx, e1, fun σ1 H1 Hf1 R1 s1 => ⟨H₀, Hf₀, ρ1, Hf1, r, ρ', R1, hr.mono s1, q, fun σ2 H2 Hf2 R2 s2 => k _ _ _ R2 (s1.trans s2)⟩⟩
def tupG (n : Nat) (δ : FGs) : FG := fun d ρ => match d with
  | .tup ds => if ds.length = n then δ ds ρ else none
  | _ => none
theorem dg_tup {kx n : Nat} {δ : FGs} (hc : X.calm = true) (h : DGs X es δ) (hn : (assignEach es X.env).length = n := by rfl) (hst : (assignEach es X.env).findIdx? (·.1) = none := by rfl) : DG X (.Tuple es kx pos) (tupG n δ) :=
  pg_imp (pg_tup hc h hn hst) fun v σ H Q ⟨H₀, Hf₀, ρ, Hf, d, ρ', R, h, q, k⟩ => by
    unfold tupG at q
    split at q
    · split at q
      · rename_i ds hl
        obtain ⟨a, xs, rfl, qa, la⟩ := Has.tup_iff.mp h
        exact ⟨a, xs, rfl, sameT R.sf qa, by rw [la.length]; exact hl, H₀, Hf₀, ρ, Hf, ds, ρ', R, la, q, k⟩
      · cases q
    · cases q
def asgG (γ : FG) (f : FE) : FS := fun ρ => (f ρ).bind fun d => (γ d ρ).bind fun ρ' => some (.nx ρ')
theorem ds_asgG {tg : Expr} {γ : FG} (hg : DG X tg γ) (he : DE X e f) (hs : swapsWithSole [tg] e pos.line X.env = pure false := by rfl) (hw : swappedStores [tg] e X.env = pure none := by rfl)
    (h1 : (assignEach [tg] X.env).map (·.2) = [assign tg X.env] := by rfl) : DS X (.Assign [tg] e pos) (asgG γ f) :=
  ps_imp (ps_asg he hg hs hw h1) fun D' σ H ⟨H₀, Hf₀, ρ, Hf, o, R, q, k⟩ => by
    obtain ⟨d, e1, e2⟩ := bindV_some q
    cases e3 : γ d ρ with
    | none => rw [e3] at e2; cases e2
    | some ρ1 =>
      rw [e3] at e2
      cases e2
      exact ⟨H₀, Hf₀, ρ, Hf, d, R, e1, fun v H1 Hf1 R1 s1 t1 h1 => ⟨H₀, Hf₀, ρ, Hf1, d, ρ1, R1, h1, e3, fun σ2 H2 Hf2 R2 s2 => k _ _ _ R2 (t1.trans s2)⟩⟩
end
end FL
set_option Elab.async false
set_option linter.all false
set_option maxRecDepth 100000
set_option maxHeartbeats 4000000
namespace FL
open PySem PySem.Spec PyProof.Rows L2
def loopF (γ : FG) (B : FS) : List D → Rho → Option Out
  | [], ρ => some (.nx ρ)
  | d :: ds, ρ => (γ d ρ).bind fun ρ1 => (B ρ1).bind fun o => match o with
    | .nx ρ2 => loopF γ B ds ρ2
    | .ct ρ2 => loopF γ B ds ρ2
    | .bk ρ2 => some (.nx ρ2)
    | .rt d => some (.rt d)
def forF (fi : FA) (γ : FG) (B : FS) : FS := fun ρ => (fi ρ).bind fun ds => loopF γ B ds ρ
structure Grows (H Hf H' Hf' : Hp) : Prop where
  h : Same H H'
  f : Same Hf Hf'
  fh : Same Hf' H'
  new : ∀ b o, Hf' b = some o → Hf b = some o ∨ H b = none ∨ Tp o
theorem Rep.grows {K : PySem.W.Frag} {H₀ Hf₀ : Hp} {σ : St} {ρ : Rho} {H Hf H' Hf' : Hp} (R : Rep K H₀ Hf₀ σ ρ H Hf) (g : Grows H Hf H' Hf') : Rep K H₀ Hf₀ σ ρ H' Hf' := R.grow g.h g.f g.fh g.new
theorem Grows.refl {H Hf : Hp} (h : Same Hf H) : Grows H Hf H Hf := ⟨sameR, sameR, h, fun _ _ e => .inl e⟩
def Walks (K : PySem.W.Frag) (Hf : Hp) (J : It) (ds : List D) : Prop :=
  ∀ (H' Hf' : Hp), Same Hf Hf' → Same Hf' H' → ∀ i : Nat, (∀ d, ds[i]? = some d → J.go i H' ∧ ∀ x H2, J.yld i H' x H2 → ∃ Hf2, Grows H' Hf' H2 Hf2 ∧ Has K Hf2 d x) ∧ (ds.length ≤ i → J.stop i H')
def tI (K : PySem.W.Frag) (fi : FA) : TI := fun σ H R' => ∃ H₀ Hf₀ ρ Hf ds, Rep K H₀ Hf₀ σ ρ H Hf ∧ fi ρ = some ds ∧ ∀ J H' Hf', Rep K H₀ Hf₀ σ ρ H' Hf' → Same H H' → Same Hf Hf' → Walks K Hf' J ds → R' J H'
def DI (X : Cx) (tg iter : Expr) (fi : FA) : Prop := PI X tg iter (tI X.K fi)
section
variable {X : Cx} {e a b c tg iter : Expr} {es : List Expr} {f g h : FE} {fa ga fi : FA} {ft gt : FT} {pos : Pos} {t t' : TE} {kk : Nat} {st : Stmt} {sts rest body : List Stmt} {F G B : FS} {γ : FG}
theorem pi_imp {t t' : TI} (h : PI X tg iter t) (i : ∀ σ H R, t' σ H R → t σ H R) : PI X tg iter t' := fun pins s σ H R I hw => h pins s σ H R I (i _ _ _ hw)
theorem ds_for (hp : PassesOwn (model X.prog X.w) X.A X.env X.xe) (hc : X.calm = true) (hi : DI X tg iter fi) (hg : DG X tg γ) (hb : DSs X body B)
    (hs : ∀ x, foldedSetIterable iter X.env x = pure x := by intro _; rfl) : DS X (.For tg iter body [] pos) (forF fi γ B) :=
  ps_imp (ps_for hp hc hi hg hb hs) fun D' σ H ⟨H₀, Hf₀, ρ, Hf, o, R, q, k⟩ => by
    obtain ⟨ds, e1, e2⟩ := bindA_some q
    refine ⟨H₀, Hf₀, ρ, Hf, ds, R, e1, fun J H1 Hf1 R1 _ t1 wk => ?_⟩
    have k1 := k.mono t1
    refine ⟨fun i m σ H => m = ds.length - i ∧ i ≤ ds.length ∧ ∃ ρ Hf', Rep X.K H₀ Hf₀ σ ρ H Hf' ∧ Same Hf1 Hf' ∧ loopF γ B (ds.drop i) ρ = some o, ⟨ds.length, by simp, Nat.zero_le _, ρ, Hf1, R1, sameR, by simpa using e2⟩, ?_⟩
    rintro i m σ2 H2 ⟨rfl, hi, ρ2, Hf2, R2, t2, el⟩
    obtain ⟨w1, w2⟩ := wk H2 Hf2 t2 R2.sf i
    by_cases hil : i < ds.length
    · right
      have hd : ds[i]? = some ds[i] := List.getElem?_eq_getElem hil
      obtain ⟨go, yld⟩ := w1 _ hd
      refine ⟨go, ?_⟩
      rw [List.drop_eq_getElem_cons hil] at el
      unfold loopF at el
      cases eg : γ ds[i] ρ2 with
      | none => rw [eg] at el; cases el
      | some ρ3 =>
        rw [eg] at el
        simp only [Option.bind_some] at el
        obtain ⟨o1, eb, eo⟩ := bindO_some el
        refine ⟨fun σ' H' => ∃ ρ' Hf', Rep X.K H₀ Hf₀ σ' ρ' H' Hf' ∧ Same Hf1 Hf' ∧ loopF γ B (ds.drop (i + 1)) ρ' = some o, ?_, ?_⟩
        · rintro σ' H' ⟨ρ', Hf', R', t', e'⟩
          exact ⟨ds.length - (i + 1), by omega, rfl, hil, ρ', Hf', R', t', e'⟩
        · intro x H3 hy
          obtain ⟨Hf3, gr, hx⟩ := yld x H3 hy
          refine ⟨H₀, Hf₀, ρ2, Hf3, ds[i], ρ3, R2.grows gr, hx, eg, fun σ4 H4 Hf4 R4 t4 => ?_⟩
          refine ⟨H₀, Hf₀, ρ3, Hf4, o1, R4, eb, ?_⟩
          have tt : Same Hf1 Hf4 := (t2.trans gr.f).trans t4
          cases o1 with
          | nx ρ5 => exact fun σ5 H5 Hf5 R5 t5 => ⟨ρ5, Hf5, R5, tt.trans t5, eo⟩
          | ct ρ5 => exact fun σ5 H5 Hf5 R5 t5 => ⟨ρ5, Hf5, R5, tt.trans t5, eo⟩
          | bk ρ5 => cases eo; exact fun σ5 H5 Hf5 R5 t5 => k1 _ _ _ R5 (tt.trans t5)
          | rt d => cases eo; exact fun v σ5 ρ5 H5 Hf5 R5 t5 h5 => k1 _ _ _ _ _ R5 (tt.trans t5) h5
    · left
      have : ds.drop i = [] := List.drop_eq_nil_of_le (by omega)
      rw [this] at el
      cases el
      exact ⟨w2 (by omega), k1 _ _ _ R2 t2⟩
def rangeD (lo hi : Int) : List D := (List.range (hi - lo).toNat).map fun (k : Nat) => D.int (lo + (k : Int))
noncomputable def rangeA : List D → Option (List D)
  | [.int j] => @ite _ (-(2 ^ 62) ≤ j ∧ j < 2 ^ 62) (Classical.propDecidable _) (some (rangeD 0 j)) none
  | _ => none
noncomputable def rangeB : List D → Option (List D)
  | [.int i, .int j] => @ite _ (-(2 ^ 62) ≤ i ∧ i < 2 ^ 62 ∧ -(2 ^ 62) ≤ j ∧ j < 2 ^ 62) (Classical.propDecidable _) (some (rangeD i j)) none
  | _ => none
noncomputable def rng1 (fa : FA) : FA := fun ρ => (fa ρ).bind rangeA
noncomputable def rng2 (fa : FA) : FA := fun ρ => (fa ρ).bind rangeB
theorem walks_range {K : PySem.W.Frag} {Hf : Hp} {lo : Int} {n : Nat} : Walks K Hf (Itr lo n) ((List.range n).map fun (k : Nat) => D.int (lo + (k : Int))) := fun H2 Hf2 t2 sf2 i => by
  refine ⟨fun d hd => ?_, fun hle => ?_⟩
  · rw [List.getElem?_map] at hd
    cases e : (List.range n)[i]? with
    | none => rw [e] at hd; cases hd
    | some j =>
      rw [e] at hd
      cases hd
      obtain ⟨h1, h2⟩ := List.getElem?_eq_some_iff.mp e
      simp at h1 h2
      subst h2
      refine ⟨h1, fun x H3 hy => ?_⟩
      obtain ⟨rfl, rfl⟩ := hy
      exact ⟨Hf2, Grows.refl sf2, Has.int_iff.mpr rfl⟩
  · show n ≤ i
    simpa using hle
theorem di_range1 {p pos : Pos} (hg : Gl X "range") (hm : X.mg "range" = none) (ha : DAR X [a] fa) (hs : starEach [a] X.env = [(false, eval a X.env)] := by rfl) : DI X tg (.Call (.Name "range" p) [a] [] pos) (rng1 fa) :=
  pi_imp (pi_range1 hg hm ha hs) fun σ H R' ⟨H₀, Hf₀, ρ, Hf, ds, R, q, k⟩ => by
    obtain ⟨l, e1, e2⟩ := bindA_some q
    unfold rangeA at e2
    split at e2
    · split at e2
      · cases e2
        rename_i j hj
        refine ⟨H₀, Hf₀, ρ, Hf, _, R, e1, fun vs H1 Hf1 R1 s1 t1 h1 => ?_⟩
        obtain ⟨v, rfl, hv⟩ := h1.one
        refine ⟨j, by rw [hv.int], hj.1, hj.2, k _ _ _ R1 s1 t1 ?_⟩
        have := walks_range (K := X.K) (Hf := Hf1) (lo := 0) (n := j.toNat)
        unfold rangeD
        rw [Int.sub_zero]
        exact this
      · cases e2
    · cases e2
theorem di_range2 {p pos : Pos} (hg : Gl X "range") (hm : X.mg "range" = none) (ha : DAR X [a, b] fa) (hs : starEach [a, b] X.env = [(false, eval a X.env), (false, eval b X.env)] := by rfl) (hs2 : starEach [b] X.env = [(false, eval b X.env)] := by rfl) :
    DI X tg (.Call (.Name "range" p) [a, b] [] pos) (rng2 fa) :=
  pi_imp (pi_range2 hg hm ha hs hs2) fun σ H R' ⟨H₀, Hf₀, ρ, Hf, ds, R, q, k⟩ => by
    obtain ⟨l, e1, e2⟩ := bindA_some q
    unfold rangeB at e2
    split at e2
    · split at e2
      · cases e2
        rename_i i j hj
        refine ⟨H₀, Hf₀, ρ, Hf, _, R, e1, fun vs H1 Hf1 R1 s1 t1 h1 => ?_⟩
        obtain ⟨v, v', rfl, hv, hv'⟩ := h1.two
        exact ⟨i, j, by rw [hv.int, hv'.int], hj, k _ _ _ R1 s1 t1 walks_range⟩
      · cases e2
    · cases e2
def whileF (c : FT) (B : FS) : Nat → Rho → Option Out
  | 0, _ => none
  | n + 1, ρ => (c ρ).bind fun b => if b = true then (B ρ).bind fun o => match o with
      | .nx ρ2 => whileF c B n ρ2
      | .ct ρ2 => whileF c B n ρ2
      | .bk ρ2 => some (.nx ρ2)
      | .rt d => some (.rt d)
    else some (.nx ρ)
theorem ds_while (n : Nat) (hp : PassesOwn (model X.prog X.w) X.A X.env X.xe) (hc : DT X c ft) (hb : DSs X body B) : DS X (.While c body [] pos) (whileF ft B n) :=
  ps_imp (ps_while hp hc hb) fun D' σ H ⟨H₀, Hf₀, ρ, Hf, o, R, q, k⟩ => by
    refine ⟨fun m σ H => ∃ ρ Hf', Rep X.K H₀ Hf₀ σ ρ H Hf' ∧ Same Hf Hf' ∧ whileF ft B m ρ = some o, ⟨n, ρ, Hf, R, sameR, q⟩, ?_⟩
    rintro m σ2 H2 ⟨ρ2, Hf2, R2, t2, e2⟩
    cases m with
    | zero => cases e2
    | succ m =>
      unfold whileF at e2
      obtain ⟨b, e3, e4⟩ := bindT_some e2
      refine ⟨H₀, Hf₀, ρ2, Hf2, b, R2, e3, fun H3 Hf3 R3 s3 t3 => ?_⟩
      have tt := t2.trans t3
      cases b with
      | false => cases e4; exact iteF (k _ _ _ R3 tt)
      | true =>
        obtain ⟨o1, e5, e6⟩ := bindO_some e4
        refine iteT ⟨fun σ' H' => ∃ ρ' Hf', Rep X.K H₀ Hf₀ σ' ρ' H' Hf' ∧ Same Hf Hf' ∧ whileF ft B m ρ' = some o, fun σ' H' h => ⟨m, Nat.lt_succ_self _, h⟩, H₀, Hf₀, ρ2, Hf3, o1, R3, e5, ?_⟩
        cases o1 with
        | nx ρ5 => exact fun σ5 H5 Hf5 R5 t5 => ⟨ρ5, Hf5, R5, tt.trans t5, e6⟩
        | ct ρ5 => exact fun σ5 H5 Hf5 R5 t5 => ⟨ρ5, Hf5, R5, tt.trans t5, e6⟩
        | bk ρ5 => cases e6; exact fun σ5 H5 Hf5 R5 t5 => k _ _ _ R5 (tt.trans t5)
        | rt d => cases e6; exact fun v σ5 ρ5 H5 Hf5 R5 t5 h5 => k _ _ _ _ _ R5 (tt.trans t5) h5
def appendF (i : Nat) (f : FE) : FS := fun ρ => (f ρ).bind fun d => match ρ[i]? with
  | some (.ol ds) => if ds.length < sizeLine then some (.nx (ρ.set i (.ol (ds ++ [d])))) else none
  | _ => none
theorem ds_append {x : Str} {p1 apos cpos pos : Pos} (i : Nat) (he : DE X e f) (hN : X.N[i]? = some x := by rfl) (hv : Vis X.env.scope x := by first | exact Or.inl rfl | exact Or.inr (Or.inl rfl) | exact Or.inr (Or.inr rfl))
    (hd : (x == ("__debug__" : Str)) = false := by decide) (hcd : (x == ("__classdict__" : Str)) = false := by decide)
    (hbase : attributeBase (.Name x p1) "append" X.env (eval (.Name x p1) X.env) = eval (.Name x p1) X.env := by rfl)
    (hfew : ((backTo cpos (starEach [e] X.env)).all (fun x => !x.1) && (backToKw cpos (keywordEach [] X.env)).all (fun x => x.1.isSome)
      && decide (([e] : List Expr).length + ([] : List Keyword).length + (if ([] : List Keyword).isEmpty then 0 else 1) < 30)) = true := by rfl)
    (hline : (apos.endLine == cpos.line) = true := by rfl) (hst : starEach [e] X.env = (false, eval e X.env) :: starEach [] X.env := by rfl) (hplain : (backTo cpos (starEach [] X.env)).any (·.1) = false := by rfl)
    (hs : swapsWith (.Call (.Attribute (.Name x p1) "append" apos) [e] [] cpos) none pos.line X.env = pure false := by rfl) :
    DS X (.Expr (.Call (.Attribute (.Name x p1) "append" apos) [e] [] cpos) pos) (appendF i f) :=
  ps_imp (ps_expr (pe_bm PySem.F.plainAttrs_list PySem.F.slot_list_append PySem.F.type_list_append mt_append (pe_var hN hv hd hcd) (pa_cons he pa_nil hst) hbase hfew hline hst hplain) hs) fun D' σ H ⟨H₀, Hf₀, ρ, Hf, o, R, q, k⟩ => by
    obtain ⟨d, e1, e2⟩ := bindV_some q
    split at e2
    · split at e2
      · cases e2
        rename_i ds el hz
        obtain ⟨a, p1, ⟨xs, p2, p3⟩, p4, p5⟩ := R.ow i _ el rfl
        refine ⟨_, p1, .inl ⟨rfl, xs, SqL.of p2⟩, H₀, Hf₀, ρ, Hf, d, R, e1, fun v H1 Hf1 R1 s1 t1 h1 => ?_⟩
        obtain ⟨a', r1, ⟨ys, r2, r3⟩, r4, r5⟩ := R1.ow i _ el rfl
        rw [p1] at r1; cases r1
        refine ⟨a, ys, v, rfl, rfl, r2, by rw [r3.length]; exact hz, ?_⟩
        exact k _ _ _ (R1.updOwn el rfl p1 rfl ⟨_, upd_same, r3.append (.cons h1 .nil)⟩) t1
      · cases e2
    · cases e2
def parF (i j : Nat) (fa : FA) : FS := fun ρ => (fa ρ).bind fun l => match l with
  | [d, d'] => some (.nx ((ρ.set i (.fr d)).set j (.fr d')))
  | _ => none
end
def spF (K : PySem.W.Frag) (n : Nat) (g : List D → Option D) : Sp := fun vs H Q _ => ∃ Hf ds d, Same Hf H ∧ HasL K Hf ds vs ∧ ds.length = n ∧ g ds = some d ∧ ∀ v H' Hf', Grows H Hf H' Hf' → Has K Hf' d v → Q v H'
def startR (n : Nat) (ds : List D) : Rho := ds.map Slot.fr ++ List.replicate (n - ds.length) Slot.no
def outD (o : Option Out) : Option D := match o with
  | some (.rt d) => some d
  | some (.nx _) => some .non
  | _ => none
def denF (m : Nat) (F : FS) : List D → Option D := fun ds => outD (F (startR m ds))
theorem rep_start {K : PySem.W.Frag} {N : List Str} {H Hf : Hp} {ds : List D} {vs : List V} (sf : Same Hf H) (h : HasL K Hf ds vs) : Rep K H Hf (L2.start N vs) (startR N.length ds) H Hf where
  s0 := sameR
  sf := sf
  nf := fun b o e => .inl e
  f0 := sameR
  len := by unfold startR L2.start; simp [h.length]
  fr := fun i d e => by
    unfold startR at e
    unfold L2.start
    by_cases hi : i < ds.length
    · rw [List.getElem?_append_left (by simpa using hi)] at e
      rw [List.getElem?_map] at e
      cases e1 : ds[i]? with
      | none => rw [e1] at e; cases e
      | some d' =>
        rw [e1] at e; cases e
        obtain ⟨v, e2, e3⟩ := h.get e1
        refine ⟨v, ?_, e3⟩
        have hl := h.length
        rw [List.getElem?_append_left (by simp; omega), List.getElem?_map, e2]
        rfl
    · rw [List.getElem?_append_right (by simpa using hi), List.getElem?_replicate] at e
      split at e <;> cases e
  ow := fun i sl e o => by
    unfold startR at e
    by_cases hi : i < ds.length
    · rw [List.getElem?_append_left (by simpa using hi), List.getElem?_map] at e
      cases e1 : ds[i]? with
      | none => rw [e1] at e; cases e
      | some d' => rw [e1] at e; cases e; cases o
    · rw [List.getElem?_append_right (by simpa using hi), List.getElem?_replicate] at e
      split at e
      · cases e; cases o
      · cases e
  inj := fun i j sl sl' a e o e' o' _ _ => by
    unfold startR at e
    by_cases hi : i < ds.length
    · rw [List.getElem?_append_left (by simpa using hi), List.getElem?_map] at e
      cases e1 : ds[i]? with
      | none => rw [e1] at e; cases e
      | some d' => rw [e1] at e; cases e; cases o
    · rw [List.getElem?_append_right (by simpa using hi), List.getElem?_replicate] at e
      split at e
      · cases e; cases o
      · cases e
section
variable {P : Program} {w : World} {K : PySem.W.Frag} {mg : Str → Option Value} {base : Heap}
theorem fn_den {x qual : Str} {st : Stmt} {f : Addr} {fd : FuncData} {N ps : List Str} {k m n : Nat} {F : FS} (hm : N.length = m) (hn : ps.length = n) (Fn : Fun K x qual st f fd) (S : FnScope N ps (defScope st))
    (body : ∀ (cdv : Value) (A : Around) (outer : List Env) (s : Shared) (H : Hp) (E : XK), Room k (A.deeper (envOfC qual (defScope st) s.heap.objs.size f cdv)) →
      DSs (cxOf CX0 P w K mg base N qual (defScope st) f cdv A outer s H E).nox (defBody st) F) :
    FnOk P w K mg base CX0 (k + 1) f fd ps (spF K n (denF m F)) := by
  subst hm hn
  refine Fn.ok S (fun vs H Q E h => ?_) (fun cdv A outer s H vs Q E hr h => ?_)
  · obtain ⟨Hf, ds, d, _, h1, h2, _⟩ := h
    rw [h1.length]; exact h2
  · obtain ⟨Hf, ds, d, sf, h1, h2, h3, q⟩ := h
    refine ⟨_, body cdv A outer s H E hr, ?_⟩
    unfold denF outD at h3
    have R := rep_start (N := N) sf h1
    have fin : ∀ (v : V) (σ' : St) (ρ' : Rho) (H' Hf' : Hp), Rep K H Hf σ' ρ' H' Hf' → Has K Hf' d v → Q v H' := fun v σ' ρ' H' Hf' R' hv => q v H' Hf' ⟨R'.s0, R'.f0, R'.sf, R'.nf⟩ hv
    split at h3
    · cases h3
      rename_i d e
      exact ⟨H, Hf, _, Hf, _, R, e, fun v σ' ρ' H' Hf' R' _ hv => fin v σ' ρ' H' Hf' R' hv⟩
    · cases h3
      rename_i ρ' e
      exact ⟨H, Hf, _, Hf, _, R, e, fun σ' H' Hf' R' _ => fin _ σ' ρ' H' Hf' R' (Has.non_iff.mpr rfl)⟩
    · cases h3
end
section
variable {X : Cx} {e : Expr} {es : List Expr} {fa : FA} {pos : Pos}
theorem d_call {CX : CXT} {k : Nat} {f : Addr} {fd : FuncData} {ps : List Str} {g : List D → Option D} {E : XK} {x : Str} {p : Pos} {n : Nat} (Fn : FnOk X.prog X.w X.K X.mg X.base CX k f fd ps (spF X.K n g)) (hr : Room k X.A) (hg : Gl X x) (hm : X.mg x = some (.ref f))
    (hk : PySem.W.keepIn X.K (.ref f) = true) (hb : Binds X.K fd ps []) (hx : Passes CX X E) (ha : DA X (e :: es) fa) (hn : ∀ ρ ds, fa ρ = some ds → ds.length = n)
    (hdb : (x == ("__debug__" : Str)) = false := by decide) (he : starEach (e :: es) X.env = (false, eval e X.env) :: starEach es X.env := by rfl) (hpl : (backTo pos (starEach es X.env)).any (·.1) = false := by rfl) :
    DE X (.Call (.Name x p) (e :: es) [] pos) (appF g fa) :=
  pe_imp (pe_call Fn hr hg hm hk hb .nil hx ha hdb he hpl) fun σ H Q ⟨H₀, Hf₀, ρ, Hf, d, R, q, k⟩ => by
    obtain ⟨ds, e1, e2⟩ := bindA_some q
    refine ⟨H₀, Hf₀, ρ, Hf, ds, R, e1, fun vs H1 Hf1 R1 s1 t1 h1 => ?_⟩
    show spF X.K n g (vs ++ []) H1 Q E
    rw [List.append_nil]
    exact ⟨Hf1, ds, d, R1.sf, h1, hn ρ ds e1, e2, fun v H2 Hf2 gr hv => k _ _ _ (R1.grows gr) (s1.trans gr.h) (t1.trans gr.f) hv⟩
end
theorem lenA0 : ∀ (ρ : Rho) (ds : List D), nilA ρ = some ds → ds.length = 0 := fun ρ ds h => by cases h; rfl
theorem lenAS {f : FE} {g : FA} {n : Nat} (h : ∀ (ρ : Rho) (ds : List D), g ρ = some ds → ds.length = n) : ∀ (ρ : Rho) (ds : List D), consA f g ρ = some ds → ds.length = n + 1 := fun ρ ds q => by
  obtain ⟨x, xs, _, e2, rfl⟩ := consA_some q
  simp [h ρ xs e2]
theorem law_sp {K : PySem.W.Frag} {g : List D → Option D} {H : Hp} {a : Addr} {ns : List Int} (hq : SqL K H a (ns.map V.int)) (hg : g [.lst (ns.map D.int)] = some (.bl true)) : spF K 1 g [.ref a] H (fun v _ => v = .bl true) fun _ _ _ => False :=
  ⟨H, [.lst (ns.map D.int)], .bl true, sameR, .cons (Has.lst_iff.mpr ⟨a, _, rfl, hq, HasL.ints ns⟩) .nil, rfl, hg, fun v H' Hf' _ hv => Has.bl_iff.mp hv⟩
end FL
set_option Elab.async false
set_option linter.all false
set_option maxRecDepth 100000
set_option maxHeartbeats 4000000
namespace FL
open PySem PySem.Spec PyProof.Rows L2
def tyN : D → String
  | .non => "NoneType"
  | .bl _ => "bool"
  | .int _ => "int"
  | .str _ => "str"
  | .tup _ => "tuple"
  | .lst _ => "list"
def subTy (t T : String) : Bool := t == T || (t == "bool" && T == "int")
def isTy (T : String) (d : D) : Option D := some (.bl (subTy (tyN d) T))
def TyOk (T : String) : Prop := ∀ (K : PySem.W.Frag) (d : D), PySem.W.kitOne K (.type (tyN d)) (.type T) = some (subTy (tyN d) T)
theorem ty_int : TyOk "int" := fun K d => by cases d <;> kernel_rfl
theorem ty_bool : TyOk "bool" := fun K d => by cases d <;> kernel_rfl
theorem ty_str : TyOk "str" := fun K d => by cases d <;> kernel_rfl
theorem ty_tuple : TyOk "tuple" := fun K d => by cases d <;> kernel_rfl
theorem ty_list : TyOk "list" := fun K d => by cases d <;> kernel_rfl
section
variable {X : Cx} {pins : List (Addr × Obj)} {σ : St} {H : Hp} {s : Shared} {A : Around} {E : Value → Shared → Prop} {Q : Value → Shared → Prop} {c : Value} {b : Bool}
theorem isinst_d {d : D} {v : V} {u : Value} (I : Inv X pins σ H s) (hd : Has X.K H d v) (rx : RelV v u) (e : PySem.W.kitOne X.K (.type (tyN d)) c = some b) (h : ∀ tk, Q (.bool b) { s with toks := tk }) :
    wpAny (model X.prog X.w) A (call (.builtin "isinstance") [u, c]) Q E s := by
  cases d with
  | non => rw [Has.non_iff] at hd; subst hd; cases rx; exact PySem.W.kia_one PySem.W.kitx_none I.kIn True.intro e (fun z => nomatch z) h
  | bl y => rw [Has.bl_iff] at hd; subst hd; cases rx; exact PySem.W.kia_one PySem.W.kitx_bool I.kIn True.intro e (fun z => nomatch z) h
  | int y => rw [Has.int_iff] at hd; subst hd; obtain ⟨t, rfl⟩ := rx; exact PySem.W.kia_one PySem.W.kitx_int I.kIn True.intro e (fun z => nomatch z) h
  | str y => rw [Has.str_iff] at hd; subst hd; obtain ⟨t, rfl⟩ := rx; exact PySem.W.kia_one PySem.W.kitx_str I.kIn True.intro e (fun z => nomatch z) h
  | tup ds =>
    obtain ⟨a, xs, rfl, q, _⟩ := Has.tup_iff.mp hd
    cases rx
    obtain ⟨its, _, ⟨o, h1, h2, _⟩, _⟩ := I.tuple q
    exact PySem.W.kia_one PySem.W.kitx_tuple I.kIn ⟨o, h1, h2⟩ e (fun z => nomatch z) h
  | lst ds =>
    obtain ⟨a, xs, rfl, q, _⟩ := Has.lst_iff.mp hd
    cases rx
    obtain ⟨its, _, ⟨o, n, h1, h2, _⟩, _⟩ := I.list q
    exact PySem.W.kia_one PySem.W.kitx_list I.kIn ⟨o, h1, h2⟩ e (fun z => nomatch z) h
end
section
variable {X : Cx} {e a b c : Expr} {es : List Expr} {f g h : FE} {fa ga : FA} {pos : Pos}
theorem call_isTy {T : String} (hT : TyOk T) : CallR X (.builtin "isinstance") (fun xs H Q => ∃ v d, xs = [v, .ty T] ∧ Has X.K H d v ∧ Q (.bl (subTy (tyN d) T)) H) := by
  intro pins s σ H xs us Q I r h
  obtain ⟨v, d, rfl, hd, q⟩ := h
  obtain ⟨u, w', rfl, rx, ry⟩ := vals2 r
  cases ry
  exact isinst_d I hd rx (hT X.K d) fun tk => ⟨.bl _, H, I.tok _, rfl, q⟩
theorem d_isTy {T : String} {x y : Str} {p p2 : Pos} (hT : TyOk T) (ha : DR X a f) (hg : Gl X x) (hm : X.mg x = none) (hg2 : Gl X y) (hm2 : X.mg y = none) (hv : bootBuiltins x = some (.builtin "isinstance") := by rfl) (hv2 : bootBuiltins y = some (.type T) := by rfl)
    (hn : x ≠ "__name__" := by decide) (hdb : (x == ("__debug__" : Str)) = false := by decide) (hn2 : y ≠ "__name__" := by decide) (hdb2 : (y == ("__debug__" : Str)) = false := by decide)
    (he : starEach [a, .Name y p2] X.env = (false, eval a X.env) :: starEach [.Name y p2] X.env := by rfl) (he2 : starEach [.Name y p2] X.env = (false, eval (.Name y p2) X.env) :: starEach [] X.env := by rfl) (hpl : (backTo pos (starEach [.Name y p2] X.env)).any (·.1) = false := by rfl) :
    DE X (.Call (.Name x p) [a, .Name y p2] [] pos) (bind1 (isTy T) f) :=
  pe_imp (pe_callB (call_isTy hT) hg hm hv (pa_cons ha (pa_cons (pe_bltn (v := .ty T) hg2 hm2 hv2 rfl hn2 hdb2) pa_nil he2) he) hn hdb he hpl) fun σ H Q ⟨H₀, Hf₀, ρ, Hf, d, R, q, k⟩ => by
    obtain ⟨x, e1, e2⟩ := bindV_some q
    cases e2
    exact ⟨H₀, Hf₀, ρ, Hf, x, R, e1, fun v H1 Hf1 R1 s1 t1 h1 => ⟨v, x, rfl, h1.full R1, k _ _ _ R1 s1 t1 (Has.bl_iff.mpr rfl)⟩⟩
theorem d_gstr {x z : Str} {pos : Pos} (hg : Gl X x) (hm : ∃ t, X.mg x = some (.str z t)) (hd : (x == ("__debug__" : Str)) = false := by decide) : DE X (.Name x pos) (cF (.str z)) := by
  obtain ⟨t, hm⟩ := hm
  exact d_glob hg hm rfl ⟨t, rfl⟩ hd
theorem d_gint {x : Str} {z : Int} {pos : Pos} (hg : Gl X x) (hm : ∃ t, X.mg x = some (.int z t)) (hd : (x == ("__debug__" : Str)) = false := by decide) : DE X (.Name x pos) (cF (.int z)) := by
  obtain ⟨t, hm⟩ := hm
  exact d_glob hg hm rfl ⟨t, rfl⟩ hd
end
structure HasFn (P : Program) (w : World) (K : PySem.W.Frag) (mg : Str → Option Value) (base : Heap) (k : Nat) (x : Str) (n : Nat) (g : List D → Option D) : Prop where
  ex : ∃ (f : Addr) (fd : FuncData) (ps : List Str), FnOk P w K mg base CX0 k f fd ps (spF K n g) ∧ mg x = some (.ref f) ∧ PySem.W.keepIn K (.ref f) = true ∧ Binds K fd ps []
theorem d_callH {X : Cx} {e : Expr} {es : List Expr} {fa : FA} {pos : Pos} {k : Nat} {g : List D → Option D} {x : Str} {p : Pos} {n : Nat} (Fn : HasFn X.prog X.w X.K X.mg X.base k x n g) (hr : Room k X.A) (hg : Gl X x) (ha : DA X (e :: es) fa) (hn : ∀ ρ ds, fa ρ = some ds → ds.length = n)
    (hdb : (x == ("__debug__" : Str)) = false := by decide) (he : starEach (e :: es) X.env = (false, eval e X.env) :: starEach es X.env := by rfl) (hpl : (backTo pos (starEach es X.env)).any (·.1) = false := by rfl) :
    DE X (.Call (.Name x p) (e :: es) [] pos) (appF g fa) := by
  obtain ⟨f, fd, ps, h1, h2, h3, h4⟩ := Fn.ex
  exact d_call h1 hr hg h2 h3 h4 pass0 ha hn hdb he hpl
end FL
set_option Elab.async false
set_option linter.all false
set_option maxRecDepth 100000
set_option maxHeartbeats 4000000
namespace FL
open PySem PySem.Spec PyProof.Rows L2
theorem lt_big {n k : Nat} (h : n < 2 ^ k) (hk : k ≤ 8000) : n < big := Nat.lt_of_lt_of_le h (Nat.pow_le_pow_right (by decide) hk)
theorem mulOk_l {i j : Int} (h1 : -(2 ^ 64) < i) (h2 : i < 2 ^ 64) : MulB i j := .inl (by omega)
theorem mulD_ok {i j : Int} (h : MulB i j) : mulD (.int i) (.int j) = some (.int (i * j)) := by
  show (if MulB i j then _ else _) = _
  rw [if_pos h]
theorem modD_ok {i j : Int} (h : 0 < j) : modD (.int i) (.int j) = some (.int (i % j)) := by
  show (if 0 < j then _ else _) = _
  rw [if_pos h]
theorem fdivD_ok {i j : Int} (h : 0 < j) (h2 : j < 2 ^ 64) : fdivD (.int i) (.int j) = some (.int (i / j)) := by
  show (if DivB j then _ else _) = _
  rw [if_pos ⟨h, h2⟩]
theorem powD_ok {i j : Int} (h : PowB i j) : powD (.int i) (.int j) = some (.int (i ^ j.toNat)) := by
  show (if PowB i j then _ else _) = _
  rw [if_pos h]
theorem eqF_int {i j : Int} : eqF (.int i) (.int j) = some (.bl (decide (i = j))) := by unfold eqF; simp [dep, eqD]; rfl
theorem neF_int {i j : Int} : neF (.int i) (.int j) = some (.bl (!decide (i = j))) := by unfold neF; simp [dep, eqD]; rfl
end FL
set_option Elab.async false
set_option linter.all false
set_option maxRecDepth 100000
set_option maxHeartbeats 4000000
namespace FL
open PySem PySem.Spec PyProof.Rows L2
def closeGo (env : Env) : List (Str × NameKind) → List (Str × Addr) → Option (List (Str × Addr))
  | [], cs => some cs
  | (n, k) :: r, cs => if k == .free then match env.cells.lookup n with
      | some c => closeGo env r ((n, c) :: cs)
      | none => none
    else closeGo env r cs
def closeBody (env : Env) : (Str × NameKind) → List (Str × Addr) → Sem (ForInStep (List (Str × Addr))) := fun x c => match x with
  | (name, kind) => if (kind == NameKind.free) = true then do let a ← cellOf env name; pure (ForInStep.yield ((name, a) :: c)) else pure (ForInStep.yield c)
theorem closeBody_free {env : Env} {n : Str} {k : NameKind} {c : Addr} {cs : List (Str × Addr)} (hk : (k == NameKind.free) = true) (hc : env.cells.lookup n = some c) : closeBody env (n, k) cs = pure (.yield ((n, c) :: cs)) := by
  unfold closeBody cellOf
  simp only [hk, if_true, hc]
  rfl
theorem closeBody_no {env : Env} {n : Str} {k : NameKind} {cs : List (Str × Addr)} (hk : (k == NameKind.free) = false) : closeBody env (n, k) cs = pure (.yield cs) := by
  unfold closeBody
  simp only [hk, Bool.false_eq_true, if_false]
theorem closeGo_eq {env : Env} : ∀ (l : List (Str × NameKind)) (cs cl : List (Str × Addr)), closeGo env l cs = some cl → (forIn l cs (closeBody env) : Sem (List (Str × Addr))) = pure cl
  | [], cs, cl, h => by cases h; rfl
  | (n, k) :: r, cs, cl, h => by
    rw [List.forIn_cons]
    unfold closeGo at h
    cases hk : k == NameKind.free with
    | true =>
      rw [hk] at h
      cases hc : env.cells.lookup n with
      | none => rw [hc] at h; cases h
      | some c =>
        rw [hc] at h
        rw [closeBody_free hk hc]
        exact closeGo_eq r _ cl h
    | false =>
      rw [hk] at h
      rw [closeBody_no hk]
      exact closeGo_eq r _ cl h
theorem closureFor_go {scope : Scope} {env : Env} {cl : List (Str × Addr)} (h : closeGo env scope.names [] = some cl) : closureFor scope env = pure cl := by
  have e := closeGo_eq (env := env) scope.names [] cl h
  unfold closureFor
  simp only [bind_pure]
  exact e
theorem closeGo_ex {env : Env} : ∀ (l : List (Str × NameKind)) (cs : List (Str × Addr)), (∀ n, (n, NameKind.free) ∈ l → ∃ c, env.cells.lookup n = some c) → (∀ x c, cs.lookup x = some c → env.cells.lookup x = some c) →
    ∃ cl, closeGo env l cs = some cl ∧ (∀ x c, cl.lookup x = some c → env.cells.lookup x = some c) ∧ (∀ x c, cs.lookup x = some c → ∃ c', cl.lookup x = some c') ∧ ∀ n, (n, NameKind.free) ∈ l → ∃ c, cl.lookup n = some c
  | [], cs, _, h2 => ⟨cs, rfl, h2, fun x c e => ⟨c, e⟩, fun n hn => by cases hn⟩
  | (n, k) :: r, cs, h1, h2 => by
    cases hk : k == NameKind.free with
    | true =>
      have hkf : k = .free := by simpa using hk
      subst hkf
      obtain ⟨c, hc⟩ := h1 n List.mem_cons_self
      obtain ⟨cl, e1, e2, e3, e4⟩ := closeGo_ex r ((n, c) :: cs) (fun m hm => h1 m (List.mem_cons_of_mem _ hm)) (fun x d e => by
        rw [List.lookup_cons] at e
        cases hx : x == n with
        | true => rw [hx] at e; cases e; have : x = n := by simpa using hx
                  rw [this]; exact hc
        | false => rw [hx] at e; exact h2 x d e)
      refine ⟨cl, by unfold closeGo; rw [hk, hc]; exact e1, e2, fun x d e => ?_, fun m hm => ?_⟩
      · cases hx : x == n with
        | true => exact e3 x c (by rw [List.lookup_cons, hx])
        | false => exact e3 x d (by rw [List.lookup_cons, hx]; exact e)
      · rcases List.mem_cons.mp hm with q | q
        · cases q; exact e3 n c (by rw [List.lookup_cons]; simp)
        · exact e4 m q
    | false =>
      obtain ⟨cl, e1, e2, e3, e4⟩ := closeGo_ex r cs (fun m hm => h1 m (List.mem_cons_of_mem _ hm)) h2
      refine ⟨cl, by unfold closeGo; rw [hk]; exact e1, e2, e3, fun m hm => ?_⟩
      rcases List.mem_cons.mp hm with q | q
      · cases q; simp at hk
      · exact e4 m q
structure CompScope (osc : Scope) (scope : Scope) (own frees : List Str) : Prop where
  kind : scope.kind = .function
  nocell : ∀ y ∈ scope.names, y.2 ≠ .cell
  loc : ∀ y ∈ scope.names, y.2 = .local → scope.names.lookup y.1 = some .local
  free : ∀ y ∈ scope.names, y.2 = .free → osc.names.lookup y.1 = some .cell ∨ osc.names.lookup y.1 = some .free
  capt : ∀ x ∈ frees, (osc.names.lookup x = some .cell ∨ osc.names.lookup x = some .free) ∧ scope.names.lookup x = some .free
theorem lookup_mem {α : Type} : ∀ {l : List (Str × α)} {x : Str} {k : α}, l.lookup x = some k → (x, k) ∈ l
  | [], _, _, h => by simp at h
  | (n, k) :: r, x, k', h => by
    rw [List.lookup_cons] at h
    cases hx : x == n with
    | true => rw [hx] at h; cases h; have : x = n := by simpa using hx
              subst this; exact List.mem_cons_self
    | false => rw [hx] at h; exact List.mem_cons_of_mem _ (lookup_mem h)
theorem relabel_cf {env : Env} {x : Str} : ∀ {l : List (Str × NameKind)}, (∀ y ∈ l, y.2 ≠ .cell) →
    ((l.map fun (n, k) => if (k == NameKind.free && env.scope.kind == .function && env.kindOf n == some .cell) then (n, NameKind.cell) else (n, k)).lookup x = some .cell ∨
     (l.map fun (n, k) => if (k == NameKind.free && env.scope.kind == .function && env.kindOf n == some .cell) then (n, NameKind.cell) else (n, k)).lookup x = some .free) → (x, NameKind.free) ∈ l
  | [], _, h => by simp at h
  | (n, k) :: r, hc, h => by
    have ih := @relabel_cf env x r (fun y hy => hc y (List.mem_cons_of_mem _ hy))
    have hk : k ≠ .cell := hc (n, k) List.mem_cons_self
    rw [List.map_cons] at h
    by_cases hq : (k == NameKind.free && env.scope.kind == .function && env.kindOf n == some .cell) = true
    · simp only [hq, if_true, List.lookup_cons] at h
      cases hx : x == n with
      | true =>
        have e1 : x = n := by simpa using hx
        have e2 : k = .free := by simp at hq; exact hq.1.1
        subst e1 e2; exact List.mem_cons_self
      | false => rw [hx] at h; exact List.mem_cons_of_mem _ (ih h)
    · simp only [hq, Bool.false_eq_true, if_false, List.lookup_cons] at h
      cases hx : x == n with
      | true =>
        rw [hx] at h
        have e1 : x = n := by simpa using hx
        subst e1
        rcases h with h | h
        · cases h; exact absurd rfl hk
        · cases h; exact List.mem_cons_self
      | false => rw [hx] at h; exact List.mem_cons_of_mem _ (ih h)
theorem relabel_free {env : Env} {x : Str} : ∀ {l : List (Str × NameKind)}, l.lookup x = some .free →
    ((l.map fun (n, k) => if (k == NameKind.free && env.scope.kind == .function && env.kindOf n == some .cell) then (n, NameKind.cell) else (n, k)).lookup x = some .cell ∨
     (l.map fun (n, k) => if (k == NameKind.free && env.scope.kind == .function && env.kindOf n == some .cell) then (n, NameKind.cell) else (n, k)).lookup x = some .free)
  | [], h => by simp at h
  | (n, k) :: r, h => by
    have ih := @relabel_free env x r
    rw [List.map_cons]
    rw [List.lookup_cons] at h
    by_cases hq : (k == NameKind.free && env.scope.kind == .function && env.kindOf n == some .cell) = true
    · simp only [hq, if_true, List.lookup_cons]
      cases hx : x == n with
      | true => exact .inl rfl
      | false => rw [hx] at h; exact ih h
    · simp only [hq, Bool.false_eq_true, if_false, List.lookup_cons]
      cases hx : x == n with
      | true => rw [hx] at h; exact .inr h
      | false => rw [hx] at h; exact ih h
theorem compLoop_any {prog : Program} {w : World} {A : Around} {R : Result → Shared → Prop} {s : Shared} {elt target iter : Expr} {ifs : List Expr} {scope : Scope} {pos : Pos} {it acc : Value} {env : Env} (I : Nat → Shared → Prop)
    (turn : ∀ n s, I n s → wpAny (model prog w) A (pyNext it) (fun r s₁ => match r with
      | none => R (.ok .next) s₁
      | some v => wpAny (model prog w) A (letOwnedTupleGo target it v) (fun _ s₁' => wpAny (model prog w) A (assign target env v) (fun _ s₂ =>
          wpAny (model prog w) A (forIn ifs true fun c r => if r = true then do let ok ← isTrue c env (eval c env); pure (ForInStep.yield ok) else pure (ForInStep.yield r)) (fun ok s₃ =>
            if ok = true then wpAny (model prog w) A (eval elt env) (fun x s₄ =>
              wpAny (model prog w) A (call (.builtin "list.append") [acc, x]) (fun _ s₅ => ∃ m, m < n ∧ I m s₅) (fun _ _ => False) s₄) (fun _ _ => False) s₃
            else ∃ m, m < n ∧ I m s₃) (fun _ _ => False) s₂) (fun _ _ => False) s₁') (fun _ _ => False) s₁) (fun _ _ => False) s)
    (n : Nat) (h : I n s) :
    codeAny (model prog w) A (.compLoop (.ListComp elt [⟨target, iter, ifs, 0⟩] scope pos) 0 it acc env) R s := by
  refine codeAny_loop rfl I (fun n s hI => ?_) n h
  show wpAny _ A ((compTurn (.ListComp elt [⟨target, iter, ifs, 0⟩] scope pos) 0 it acc env).onRaise (fun x => do noteFrame x env; theTreesLotGoes x)) _ _ s
  refine wpAny_noted ?_
  rw [compTurn_list]
  refine wpAny_bind (wpAny_standAt (wpAny_bind (wpAny_mono (turn n s hI) (fun r s₁ h₁ => ?_) fun _ _ h' => h'.elim)))
  cases r with
  | none => exact wpAny_pure h₁
  | some v =>
    refine wpAny_bind (wpAny_mono h₁ (fun _ s₁' h₁' => ?_) fun _ _ h' => h'.elim)
    refine wpAny_bind (wpAny_mono h₁' (fun _ s₂ h₂ => wpAny_bind (wpAny_mono h₂ (fun ok s₃ h₃ => ?_) fun _ _ h' => h'.elim)) fun _ _ h' => h'.elim)
    cases ok with
    | false => exact wpAny_pure ⟨rfl, h₃⟩
    | true =>
      exact wpAny_bind (wpAny_bind (wpAny_mono h₃ (fun x s₄ h₄ => wpAny_bind (wpAny_mono h₄ (fun _ s₅ h₅ => wpAny_pure (wpAny_pure ⟨rfl, h₅⟩)) fun _ _ h' => h'.elim)) fun _ _ h' => h'.elim))
def cxC (X : Cx) (scope : Scope) (cl : List (Str × Addr)) (C : Addr) (N : List Str) (s : Shared) (H : Hp) (fp : List Addr) : Cx :=
  { X with N := N, s₀ := s, H₀ := H, env := compEnvC scope cl C X.env, outer := X.stack, stack := X.stack, ex := fp, fn := fun _ => false, pn := [], xe := fun _ _ => False }
end FL
set_option Elab.async false
set_option linter.all false
set_option maxRecDepth 100000
set_option maxHeartbeats 4000000
namespace FL
open PySem PySem.Spec PyProof.Rows L2
def capS (ρ : Rho) (j : Nat) : Slot := match ρ[j]? with
  | some (.fr d) => .fr d
  | _ => .no
def compGo (γ : FG) (ft : FT) (f : FE) : List D → Rho → Option (List D)
  | [], _ => some []
  | d :: ds, ρ => (γ d ρ).bind fun ρ1 => (ft ρ1).bind fun b => if b = true then (f ρ1).bind fun y => (compGo γ ft f ds ρ1).bind fun ys => some (y :: ys) else compGo γ ft f ds ρ1
def compS (n : Nat) (caps : List Nat) (ρ : Rho) : Rho := List.replicate n .no ++ caps.map (capS ρ)
def compF (n : Nat) (caps : List Nat) (fi : FA) (γ : FG) (ft : FT) (f : FE) : FA := fun ρ => (fi ρ).bind fun ds => if ds.length ≤ sizeLine then compGo γ ft f ds (compS n caps ρ) else none
def DQ (X : Cx) (ifs : List Expr) (ft : FT) : Prop :=
  ∀ (pins : List (Addr × Obj)) (s : Shared) (σ : St) (H : Hp) (Q : Bool → Hp → Prop), Inv X pins σ H s → tT X.K ft σ H Q →
    wpAny (model X.prog X.w) X.A (forIn ifs true fun c r => if r = true then do let ok ← isTrue c X.env (eval c X.env); pure (ForInStep.yield ok) else pure (ForInStep.yield r)) (TP X pins σ Q) X.xe s
def ttF : FT := fun _ => some true
theorem dq_nil {X : Cx} : DQ X [] ttF := fun pins s σ H Q I h => by
  obtain ⟨H₀, Hf₀, ρ, Hf, b, R, q, k⟩ := h
  cases q
  exact wpAny_tests_nil ⟨H, I, k _ _ R sameR sameR⟩
theorem dq_one {X : Cx} {c : Expr} {ft : FT} (h : DT X c ft) : DQ X [c] ft := fun pins s σ H Q I hq => wpAny_tests_one (h pins s σ H Q I hq)
def compσ (n : Nat) (caps : List Nat) (σ : St) : St := List.replicate n none ++ caps.map (fun j => σ.getD j none)
section
variable {X : Cx} {scope : Scope} {own frees : List Str} {caps : List Nat} {cl : List (Str × Addr)}
theorem cxC_ok {pins : List (Addr × Obj)} {s : Shared} {σ : St} {H : Hp} {fp : List Addr} {C : Addr} {N : List Str} (I : Inv X pins σ H s) (S : CompScope X.env.scope scope own frees) (hfp : ∀ b ∈ fp, FpOk X pins H b) (hfo : ∀ b ∈ fp, b < s.heap.objs.size)
    (c1 : ∀ x c, cl.lookup x = some c → X.env.cells.lookup x = some c) (c2 : ∀ n, (n, NameKind.free) ∈ scope.names → ∃ c, cl.lookup n = some c) (hC : s.heap.objs.size ≤ C) : (cxC X scope cl C N s H fp).Ok where
  mod := I.ok.mod
  kind := S.kind
  glob := I.ok.glob
  blt := I.ok.blt
  above := hC
  inj := fun x y c e1 e2 => I.ok.inj x y c (c1 x c e1) (c1 y c e2)
  has := fun x hx => c2 x (relabel_cf S.nocell hx)
  cab := fun x c h => by cases h
  hd := I.ok.hd
  frames := I.ok.frames
  stk := .inl rfl
  exf := fun b hb => ⟨Nat.ne_of_lt (Nat.lt_of_lt_of_le (hfo b hb) hC), fun x c e => (hfp b hb).2.2.2.2.1 x c (c1 x c e)⟩
  bs := I.bs
  bsz := Nat.le_trans I.ok.bsz I.sz
  noex := fun b o e hb => by
    rcases (hfp b hb).2.2.2.1 with z | z
    · exact I.ok.noex b o e z
    · exact absurd (Nat.lt_of_lt_of_le (Heap.lt_size e) (Nat.le_trans I.ok.bsz z)) (Nat.lt_irrefl _)
  exfs := fun b hb z => by
    rcases List.mem_cons.mp (I.stkSub b z) with q | q
    · exact (hfp b hb).2.1 q
    · exact (hfp b hb).2.2.1 q
  funs := I.stack
  frf := I.stkFree
theorem map_get {caps : List Nat} {N : List Str} {frees : List Str} (h : caps.map (fun j => N[j]?) = frees.map some) {k : Nat} {x : Str} (e : frees[k]? = some x) : ∃ j, caps[k]? = some j ∧ N[j]? = some x := by
  have := congrArg (fun l => l[k]?) h
  simp only [List.getElem?_map, e, Option.map_some] at this
  cases hc : caps[k]? with
  | none => rw [hc] at this; cases this
  | some j => rw [hc] at this; exact ⟨j, rfl, by simpa using this⟩
theorem cxC_inv {pins : List (Addr × Obj)} {s : Shared} {σ : St} {H : Hp} {fp : List Addr} {h' : Heap} {t' : Nat} (I : Inv X pins σ H s) (S : CompScope X.env.scope scope own frees) (hcap : caps.map (fun j => X.N[j]?) = frees.map some) (hfp : ∀ b ∈ fp, FpOk X pins H b) (hfo : ∀ b ∈ fp, b < s.heap.objs.size)
    (c1 : ∀ x c, cl.lookup x = some c → X.env.cells.lookup x = some c) (c2 : ∀ n, (n, NameKind.free) ∈ scope.names → ∃ c, cl.lookup n = some c) {C : Addr} (hC : C = s.heap.objs.size + 1) (hns : h'.Ns C fun _ => none)
    (hsb : Heap.SameBut C ((s.heap.push { cls := .type "list", dict := none, data := .seq #[] }).push { cls := .type "dict", data := .dict #[] }) h') :
    Inv (cxC X scope cl C (own ++ frees) s H fp) [] (compσ own.length caps σ) (upd H s.heap.objs.size (.lst [])) { s with heap := h', toks := t' } := by
  have hk : ∀ b u, s.heap.get? b = some u → h'.get? b = some u := fun b u e => (hsb.2 b (by rw [hC]; exact Nat.ne_of_lt (Nat.lt_succ_of_lt (Heap.lt_size e)))).trans (Heap.get?_push_of_some _ (Heap.get?_push_of_some _ e))
  have hD : h'.get? s.heap.objs.size = some { cls := .type "list", dict := none, data := .seq #[] } := (hsb.2 _ (by rw [hC]; exact Nat.ne_of_lt (Nat.lt_succ_self _))).trans (Heap.get?_push_of_some _ (Heap.get?_push_size _ rfl))
  have hfD : H s.heap.objs.size = none := I.hok.fresh (Nat.le_refl _)
  have hfC : H C = none := I.hok.fresh (by rw [hC]; exact Nat.le_succ _)
  have hCD : C ≠ s.heap.objs.size := by rw [hC]; exact Nat.succ_ne_self _
  have new : ObjOk X.prog X.w (upd H s.heap.objs.size (.lst [])) h' s.heap.objs.size (.lst []) := ⟨by decide, [], 0, .nil, hD⟩
  refine ⟨cxC_ok I S hfp hfo c1 c2 (by rw [hC]; exact Nat.le_succ _), rfl, I.bare, Un.laid hk (Nat.le_refl _) hfD, ⟨fun _ => none, hns, ?_⟩, ?_, ?_, ?_, ?_, I.hok.laid hk (Nat.le_refl _) new, ?_⟩
  · intro i x v e1 e2 hv
    have e1 : (own ++ frees)[i]? = some x := e1
    unfold compσ at e2
    by_cases h1 : i < own.length
    · rw [List.getElem?_append_left (by simpa using h1), List.getElem?_replicate, if_pos h1] at e2
      cases e2
    · rw [List.getElem?_append_right (by simpa using h1)] at e2
      rw [List.getElem?_append_right (by omega)] at e1
      have hcl : caps.length = frees.length := by have := congrArg List.length hcap; simpa using this
      simp only [List.length_replicate] at e2
      · rw [List.getElem?_map] at e2
        obtain ⟨j, q1, q2⟩ := map_get hcap e1
        rw [q1] at e2
        have e2 : σ.getD j none = some v := by simpa using e2
        have e2' : σ[j]? = some (some v) := by
          rw [List.getD_eq_getElem?_getD] at e2
          cases z : σ[j]? with
          | none => rw [z] at e2; cases e2
          | some w => rw [z] at e2; simp at e2; rw [e2]
        obtain ⟨hx, hsx⟩ := S.capt x (List.mem_of_getElem? e1)
        obtain ⟨m, hn, hl⟩ := I.loc
        obtain ⟨u, r, lk⟩ := hl j x v q2 e2' (.inr hx)
        refine ⟨u, r, ?_⟩
        rcases lk with ⟨k1, _⟩ | ⟨k1, c, k2, k3⟩
        · have k1 : X.env.scope.names.lookup x = some .local := k1
          rcases hx with z | z <;> rw [z] at k1 <;> cases k1
        · obtain ⟨c', hc'⟩ := c2 x (lookup_mem hsx)
          have z := c1 x c' hc'
          rw [k2] at z; cases z
          obtain ⟨o, ho, hd⟩ := k3
          exact .inr ⟨relabel_free hsx, c, hc', o, hk _ _ ho, hd⟩
  · intro x c e
    obtain ⟨v, o, ho, hd⟩ := I.cell x c (c1 x c e)
    exact ⟨v, o, hk _ _ ho, hd⟩
  · show (upd H s.heap.objs.size (.lst [])) C = none
    rw [upd_ne hCD]; exact hfC
  · intro x c e
    have z := I.freeC x c (c1 x c e)
    obtain ⟨v, o, ho, hd⟩ := I.cell x c (c1 x c e)
    show (upd H s.heap.objs.size (.lst [])) c = none
    rw [upd_ne (Nat.ne_of_lt (Heap.lt_size ho))]; exact z
  · intro p hp; cases hp
  · show (compσ own.length caps σ).length = (own ++ frees).length
    have hcl : caps.length = frees.length := by have := congrArg List.length hcap; simpa using this
    simp [compσ, hcl]
def NoOwn (ρ : Rho) : Prop := ∀ (i : Nat) (sl : Slot), ρ[i]? = some sl → sl.own = false
theorem Rep.rebase {K : PySem.W.Frag} {H₀ Hf₀ : Hp} {σ : St} {ρ : Rho} {H Hf H' : Hp} (R : Rep K H₀ Hf₀ σ ρ H Hf) (hn : NoOwn ρ) (hs : Same Hf H') : Rep K H' Hf σ ρ H' Hf where
  s0 := sameR
  sf := hs
  nf := fun _ _ e => .inl e
  f0 := sameR
  len := R.len
  fr := R.fr
  ow := fun i sl e o => by rw [hn i sl e] at o; cases o
  inj := fun i j sl sl' a e o => by rw [hn i sl e] at o; cases o
def KeepsNo (γ : FG) : Prop := ∀ d ρ ρ', γ d ρ = some ρ' → NoOwn ρ → NoOwn ρ'
theorem NoOwn.set {ρ : Rho} (h : NoOwn ρ) (i : Nat) (d : D) : NoOwn (ρ.set i (.fr d)) := fun j sl e => by
  rw [List.getElem?_set] at e
  split at e
  · split at e
    · cases e; rfl
    · cases e
  · exact h j sl e
theorem kn_name {i : Nat} : KeepsNo (nameG i) := fun d ρ ρ' e h => by cases e; exact h.set i d
def KeepsNoS (δ : FGs) : Prop := ∀ ds ρ ρ', δ ds ρ = some ρ' → NoOwn ρ → NoOwn ρ'
theorem kns_nil : KeepsNoS nilG := fun ds ρ ρ' e h => by
  cases ds with
  | nil => cases e; exact h
  | cons _ _ => cases e
theorem kns_cons {γ : FG} {δ : FGs} (h1 : KeepsNo γ) (h2 : KeepsNoS δ) : KeepsNoS (consG γ δ) := fun ds ρ ρ' e h => by
  cases ds with
  | nil => cases e
  | cons d r =>
    have e : (γ d ρ).bind (fun ρ' => δ r ρ') = some ρ' := e
    cases e1 : γ d ρ with
    | none => rw [e1] at e; cases e
    | some ρ1 => rw [e1] at e; exact h2 r ρ1 ρ' e (h1 d ρ ρ1 e1 h)
theorem kn_tup {n : Nat} {δ : FGs} (h : KeepsNoS δ) : KeepsNo (tupG n δ) := fun d ρ ρ' e hn => by
  unfold tupG at e
  split at e
  · split at e
    · exact h _ ρ ρ' e hn
    · cases e
  · cases e
theorem NoOwn.comp {n : Nat} {caps : List Nat} {ρ : Rho} : NoOwn (compS n caps ρ) := fun i sl e => by
  unfold compS at e
  by_cases h : i < n
  · rw [List.getElem?_append_left (by simpa using h), List.getElem?_replicate, if_pos h] at e
    cases e; rfl
  · rw [List.getElem?_append_right (by simpa using h), List.getElem?_map] at e
    cases q : caps[i - (List.replicate n Slot.no).length]? with
    | none => rw [q] at e; cases e
    | some j =>
      rw [q] at e
      cases e
      unfold capS
      split <;> rfl
theorem rep_comp {K : PySem.W.Frag} {H₀ Hf₀ : Hp} {σ : St} {ρ : Rho} {H Hf H' : Hp} {n : Nat} {caps : List Nat} (R : Rep K H₀ Hf₀ σ ρ H Hf) (hs : Same Hf H') : Rep K H' Hf (compσ n caps σ) (compS n caps ρ) H' Hf where
  s0 := sameR
  sf := hs
  nf := fun _ _ e => .inl e
  f0 := sameR
  len := by simp [compS, compσ]
  fr := fun i d e => by
    unfold compS at e
    unfold compσ
    by_cases h : i < n
    · rw [List.getElem?_append_left (by simpa using h), List.getElem?_replicate, if_pos h] at e
      cases e
    · rw [List.getElem?_append_right (by simpa using h), List.getElem?_map] at e ⊢
      simp only [List.length_replicate] at e ⊢
      cases q : caps[i - n]? with
      | none => rw [q] at e; cases e
      | some j =>
        rw [q] at e
        simp only [Option.map_some, Option.some.injEq] at e ⊢
        unfold capS at e
        split at e
        · cases e
          rename_i e
          obtain ⟨v, q1, q2⟩ := R.fr j d e
          exact ⟨v, by rw [List.getD_eq_getElem?_getD, q1]; rfl, q2⟩
        · cases e
  ow := fun i sl e o => by rw [NoOwn.comp i sl e] at o; cases o
  inj := fun i j sl sl' a e o => by rw [NoOwn.comp i sl e] at o; cases o
theorem Grows.trans {H Hf H1 Hf1 H2 Hf2 : Hp} (a : Grows H Hf H1 Hf1) (b : Grows H1 Hf1 H2 Hf2) : Grows H Hf H2 Hf2 :=
  ⟨a.h.trans b.h, a.f.trans b.f, b.fh, fun c o e => by
    rcases b.new c o e with q | q | q
    · exact a.new c o q
    · exact .inr (.inl (a.h.free q))
    · exact .inr (.inr q)⟩
theorem Rep.toGrows {K : PySem.W.Frag} {σ : St} {ρ : Rho} {H Hf H' Hf' : Hp} (R : Rep K H Hf σ ρ H' Hf') : Grows H Hf H' Hf' := ⟨R.s0, R.f0, R.sf, R.nf⟩
theorem compGo_cons {γ : FG} {ft : FT} {f : FE} {d : D} {ds ys : List D} {ρ : Rho} (h : compGo γ ft f (d :: ds) ρ = some ys) :
    ∃ ρ1 b, γ d ρ = some ρ1 ∧ ft ρ1 = some b ∧ ((b = true ∧ ∃ y r, f ρ1 = some y ∧ compGo γ ft f ds ρ1 = some r ∧ ys = y :: r) ∨ (b = false ∧ compGo γ ft f ds ρ1 = some ys)) := by
  unfold compGo at h
  cases e1 : γ d ρ with
  | none => rw [e1] at h; cases h
  | some ρ1 =>
    rw [e1] at h
    simp only [Option.bind_some] at h
    cases e2 : ft ρ1 with
    | none => rw [e2] at h; cases h
    | some b =>
      rw [e2] at h
      simp only [Option.bind_some] at h
      refine ⟨ρ1, b, rfl, e2, ?_⟩
      cases b with
      | false => exact .inr ⟨rfl, by simpa using h⟩
      | true =>
        simp only [if_true] at h
        cases e3 : f ρ1 with
        | none => rw [e3] at h; cases h
        | some y =>
          rw [e3] at h
          simp only [Option.bind_some] at h
          cases e4 : compGo γ ft f ds ρ1 with
          | none => rw [e4] at h; cases h
          | some r => rw [e4] at h; cases h; exact .inl ⟨rfl, y, r, rfl, rfl, rfl⟩
theorem comp_core {tg elt iter : Expr} {ifs : List Expr} {pos : Pos} {γ : FG} {ft : FT} {f : FE} {pins : List (Addr × Obj)} {s₂ : Shared} {σ : St} {H₂ Hf₂ H₀ Hf₀ : Hp} {ρ : Rho} {ds ys : List D} {J : It} {fp : List Addr} {it : Addr} {tn : Nat → Heap → Prop} {E : Value → Shared → Prop}
    (hc : X.calm = true) (S : CompScope X.env.scope scope own frees) (hcap : caps.map (fun j => X.N[j]?) = frees.map some) (kn : KeepsNo γ)
    (body : ∀ cl C s H fp, DG (cxC X scope cl C (own ++ frees) s H fp) tg γ ∧ DQ (cxC X scope cl C (own ++ frees) s H fp) ifs ft ∧ DE (cxC X scope cl C (own ++ frees) s H fp) elt f)
    (c1 : ∀ x c, cl.lookup x = some c → X.env.cells.lookup x = some c) (c2 : ∀ n, (n, NameKind.free) ∈ scope.names → ∃ c, cl.lookup n = some c)
    (I : Inv X pins σ H₂ s₂) (T : Turn X.prog X.w X.K tg J fp it tn) (st : tn 0 s₂.heap) (hfp : ∀ b ∈ fp, FpOk X pins H₂ b) (R : Rep X.K H₀ Hf₀ σ ρ H₂ Hf₂) (wk : Walks X.K Hf₂ J ds) (hz : ds.length ≤ sizeLine)
    (hgo : compGo γ ft f ds (compS own.length caps ρ) = some ys) {RR : Value → Addr → Result → Shared → Prop}
    (hRR : ∀ D C s' H' Hf' xs, Inv X pins σ H' s' → (∃ m, s'.heap.Ns C m) → FpOk X pins H' C → Grows H₂ Hf₂ H' Hf' → HasL X.K Hf' ys xs → H' D = some (.lst xs) → Hf' D = none → H₂ D = none → RR (.ref D) C (.ok .next) s') :
    wpAny (model X.prog X.w) X.A (newList []) (fun acc s₃ => wpAny (model X.prog X.w) X.A (newFunctionEnv scope X.env.globals cl [] X.env.qual none .none (some X.env)) (fun cenv s₄ =>
      codeAny (model X.prog X.w) X.A (.compStart (.ListComp elt [⟨tg, iter, ifs, 0⟩] scope pos) 0 (.ref it) acc { cenv with scope := relabel scope X.env }) (RR acc cenv.locals) s₄) E s₃) E s₂ := by
  have hfo : ∀ b ∈ fp, b < s₂.heap.objs.size := fun b hb => by
    obtain ⟨o, ho, _⟩ := T.obj 0 _ st b hb
    exact Heap.lt_size ho
  refine wpAny_newObj_type (wpAny_newFunctionEnv S.nocell (by intro y hy; simp at hy) (fun h₁ hns₁ hsb₁ => ?_) S.kind)
  dsimp only at hns₁ hsb₁ ⊢
  have hC : (s₂.heap.push { cls := .type "list", dict := none, data := .seq ([] : List Value).toArray }).objs.size = s₂.heap.objs.size + 1 := by rw [Heap.size_push]
  generalize hCe : (s₂.heap.push { cls := .type "list", dict := none, data := .seq ([] : List Value).toArray }).objs.size = C at hC hns₁ hsb₁ ⊢
  obtain ⟨b1, b2, b3⟩ := body cl C s₂ H₂ fp
  have hfD : H₂ s₂.heap.objs.size = none := I.hok.fresh (Nat.le_refl _)
  have IC : Inv (cxC X scope cl C (own ++ frees) s₂ H₂ fp) [] (compσ own.length caps σ) (upd H₂ s₂.heap.objs.size (.lst [])) { s₂ with heap := h₁, toks := s₂.toks + ([] : List (Str × Value)).length } :=
    cxC_inv I S hcap hfp hfo c1 c2 hC hns₁ hsb₁
  have DfD : Hf₂ s₂.heap.objs.size = none := R.sf.free hfD
  have R1 : Rep X.K (upd H₂ s₂.heap.objs.size (.lst [])) Hf₂ (compσ own.length caps σ) (compS own.length caps ρ) (upd H₂ s₂.heap.objs.size (.lst [])) Hf₂ := rep_comp R (R.sf.trans (same_upd hfD))
  have keep1 : ∀ b o, s₂.heap.get? b = some o → h₁.get? b = some o := fun b u e => (hsb₁.2 b (by rw [hC]; exact Nat.ne_of_lt (Nat.lt_succ_of_lt (Heap.lt_size e)))).trans (Heap.get?_push_of_some _ (Heap.get?_push_of_some _ e))
  have st1 : tn 0 h₁ := T.keep 0 _ _ st fun b _ o e => keep1 b o e
  -- what stays true of the iterator's objects through the loop
  have stat : ∀ {H' : Hp}, (∀ b ∈ fp, H' b = none) → ∀ b ∈ fp, FpOk (cxC X scope cl C (own ++ frees) s₂ H₂ fp) [] H' b := fun {H'} hn b hb => by
    refine ⟨hn b hb, Nat.ne_of_lt (Nat.lt_of_lt_of_le (hfo b hb) (by rw [hC]; exact Nat.le_succ _)), fun z => ?_, .inl hb, fun x c e => (hfp b hb).2.2.2.2.1 x c (c1 x c e), fun p hp => by cases hp⟩
    rcases List.mem_cons.mp (I.stkSub b z) with q | q
    · exact (hfp b hb).2.1 q
    · exact (hfp b hb).2.2.1 q
  have fp1 : ∀ b ∈ fp, (upd H₂ s₂.heap.objs.size (.lst [])) b = none := fun b hb => by
    rw [upd_ne (Nat.ne_of_lt (hfo b hb))]; exact (hfp b hb).1
  have loop : ∀ s₃ : Shared, s₃ = { s₂ with heap := h₁, toks := s₂.toks + ([] : List (Str × Value)).length } →
      codeAny (model X.prog X.w) X.A (.compLoop (.ListComp elt [⟨tg, iter, ifs, 0⟩] scope pos) 0 (.ref it) (.ref s₂.heap.objs.size) (compEnvC scope cl C X.env)) (RR (.ref s₂.heap.objs.size) C) s₃ := by
    rintro s₃ rfl
    refine compLoop_any (fun n s' => ∃ i ρ' σ' H' Hf' zs xs r, n = ds.length - i ∧ i ≤ ds.length ∧ Inv (cxC X scope cl C (own ++ frees) s₂ H₂ fp) [] σ' H' s' ∧ tn i s'.heap ∧ (∀ b ∈ fp, H' b = none) ∧ Rep X.K H' Hf' σ' ρ' H' Hf' ∧ NoOwn ρ' ∧
      compGo γ ft f (ds.drop i) ρ' = some r ∧ zs ++ r = ys ∧ HasL X.K Hf' zs xs ∧ zs.length ≤ i ∧ H' s₂.heap.objs.size = some (.lst xs) ∧ Hf' s₂.heap.objs.size = none ∧ Grows H₂ Hf₂ H' Hf') ?_ ds.length
      ⟨0, _, _, _, _, [], [], ys, by simp, Nat.zero_le _, IC, st1, fp1, R1, NoOwn.comp, by simpa using hgo, rfl, .nil, by simp, upd_same, DfD, ⟨same_upd hfD, sameR, R1.sf, fun b o e => .inl e⟩⟩
    rintro n s' ⟨i, ρ', σ', H', Hf', zs, xs, r, rfl, hi, I', st', fr', R', no', go', hys, hxs, hzl, hD', hfD', gr'⟩
    obtain ⟨w1, w2⟩ := wk H' Hf' gr'.f R'.sf i
    by_cases hil : i < ds.length
    · have hd : ds[i]? = some ds[i] := List.getElem?_eq_getElem hil
      obtain ⟨go, yld⟩ := w1 _ hd
      rw [List.drop_eq_getElem_cons hil] at go'
      obtain ⟨ρ1, b, eg, et, hb⟩ := compGo_cons go'
      refine wpAny_mono (T.item (cxC X scope cl C (own ++ frees) s₂ H₂ fp) rfl rfl rfl hc i [] s' σ' H' (fun _ _ => False) I' (stat fr') st' go) (fun rv s4 ⟨u, hr, h4⟩ => ?_) fun _ _ z => z
      subst hr
      refine wpAny_mono h4 (fun _ s5 ⟨x, H5, I5, r5, y5, st5, fr5⟩ => ?_) fun _ _ z => z
      obtain ⟨Hf5, gr5, hx5⟩ := yld x H5 y5
      have R5 : Rep X.K H' Hf' σ' ρ' H5 Hf5 := R'.grows gr5
      have I5' := I5.pinned (stat fr5) (T.obj _ _ st5)
      refine wpAny_mono (b1 _ s5 σ' H5 x u _ I5' r5 ⟨H', Hf', ρ', Hf5, ds[i], ρ1, R5, hx5, eg, fun σ6 H6 Hf6 R6 t6 => (⟨Hf6, R6, t6⟩ : ∃ Hf6, Rep X.K H' Hf' σ6 ρ1 H6 Hf6 ∧ Same Hf5 Hf6)⟩) (fun _ s6 h6 => ?_) fun _ _ z => z
      obtain ⟨σ6, H6, I6, Hf6, R6, t6⟩ := h6
      refine wpAny_mono (b2 _ s6 σ6 H6 (fun b' H7 => b' = b ∧ ∃ Hf7, Rep X.K H' Hf' σ6 ρ1 H7 Hf7) I6 ⟨H', Hf', ρ1, Hf6, b, R6, et, fun H7 Hf7 R7 s7 t7 => ⟨rfl, Hf7, R7⟩⟩) (fun ok s7 h7 => ?_) fun _ _ z => z
      obtain ⟨H7, I7, rfl, Hf7, R7⟩ := h7
      have no1 := kn _ _ _ eg no'
      have hm : ds.length - (i + 1) < ds.length - i := by omega
      rcases hb with ⟨rfl, y, r', ef, er, rfl⟩ | ⟨rfl, er⟩
      · rw [if_pos rfl]
        refine wpAny_mono (b3 _ s7 σ6 H7 (fun v H8 => ∃ Hf8, Rep X.K H' Hf' σ6 ρ1 H8 Hf8 ∧ Has X.K Hf8 y v) I7 ⟨H', Hf', ρ1, Hf7, y, R7, ef, fun v H8 Hf8 R8 s8 t8 h8 => ⟨Hf8, R8, h8⟩⟩) (fun u' s8 h8 => ?_) fun _ _ z => z
        obtain ⟨v, H8, I8, r8, Hf8, R8, h8⟩ := h8
        have hD8 : H8 s₂.heap.objs.size = some (.lst xs) := R8.s0 _ _ hD'
        have hfD8 : Hf8 s₂.heap.objs.size = none := by
          cases z : Hf8 s₂.heap.objs.size with
          | none => rfl
          | some o =>
            rcases R8.nf _ _ z with q | q | ⟨ks, rfl⟩
            · rw [hfD'] at q; cases q
            · rw [hD'] at q; cases q
            · have := hD8.symm.trans (R8.sf _ _ z); cases this
        have hsd : Same Hf8 (upd H8 s₂.heap.objs.size (.lst (xs ++ [v]))) := fun b o e => by rw [upd_ne (ne_of_none e hfD8)]; exact R8.sf b o e
        refine wpAny_mono (mt_append (X := cxC X scope cl C (own ++ frees) s₂ H₂ fp) _ s8 σ6 H8 (.ref s₂.heap.objs.size) [v] _ [u'] (fun _ H9 => H9 = upd H8 s₂.heap.objs.size (.lst (xs ++ [v]))) I8 rfl (.cons r8 .nil) ⟨_, xs, v, rfl, rfl, hD8, by have := hxs.length; omega, rfl⟩) (fun u9 s9 h9 => ?_) fun _ _ z => z
        obtain ⟨v9, H9, I9, _, rfl⟩ := h9
        refine ⟨_, hm, i + 1, ρ1, σ6, _, Hf8, zs ++ [y], xs ++ [v], r', rfl, hil, I9.unpinned, T.keep _ _ _ st5 fun b hb o e => (I9.pin (b, o) (List.mem_append_right _ (List.mem_append_right _ (mem_pinsAt hb e)))).1, fun b hb => ?_, R8.rebase no1 hsd, no1, er, by rw [List.append_assoc]; exact hys, (hxs.mono R8.f0).append (.cons h8 .nil), by simp; omega, upd_same, hfD8, ?_⟩
        · obtain ⟨o, e, d⟩ := T.obj _ _ st5 b hb
          exact (I9.pin (b, o) (List.mem_append_right _ (List.mem_append_right _ (mem_pinsAt hb e)))).2.1
        · have g8 := gr'.trans R8.toGrows
          exact ⟨fun b o e => by rw [upd_ne (ne_of_none e hfD)]; exact g8.h b o e, g8.f, hsd, g8.new⟩
      · rw [if_neg Bool.false_ne_true]
        refine ⟨_, hm, i + 1, ρ1, σ6, _, Hf7, zs, xs, r, rfl, hil, I7.unpinned, T.keep _ _ _ st5 fun b hb o e => (I7.pin (b, o) (List.mem_append_right _ (List.mem_append_right _ (mem_pinsAt hb e)))).1, fun b hb => ?_, R7.rebase no1 R7.sf, no1, er, hys, hxs.mono R7.f0, by omega, R7.s0 _ _ hD', ?_, gr'.trans R7.toGrows⟩
        · obtain ⟨o, e, d⟩ := T.obj _ _ st5 b hb
          exact (I7.pin (b, o) (List.mem_append_right _ (List.mem_append_right _ (mem_pinsAt hb e)))).2.1
        · cases z : Hf7 s₂.heap.objs.size with
          | none => rfl
          | some o =>
            rcases R7.nf _ _ z with q | q | ⟨ks, rfl⟩
            · rw [hfD'] at q; cases q
            · rw [hD'] at q; cases q
            · have := (R7.s0 _ _ hD').symm.trans (R7.sf _ _ z); cases this
    · have : ds.drop i = [] := List.drop_eq_nil_of_le (by omega)
      rw [this] at go'
      cases go'
      rw [List.append_nil] at hys
      subst hys
      refine wpAny_mono (T.done (cxC X scope cl C (own ++ frees) s₂ H₂ fp) rfl rfl rfl hc i [] s' σ' H' (fun _ _ => False) I' (stat fr') st' (w2 (by omega))) (fun rv s4 ⟨hr, I4⟩ => ?_) fun _ _ z => z
      subst hr
      obtain ⟨m, hn, _⟩ := I4.loc
      have hch : ∀ b ∈ fp, (b ∈ X.ex ∨ X.s₀.heap.objs.size ≤ b) ∧ b ≠ X.env.locals ∧ (∀ x c, X.env.cells.lookup x = some c → c ≠ b) ∧ ∀ p ∈ X.pn ++ pins, p.1 ≠ b := fun b hb => ⟨(hfp b hb).2.2.2.1, (hfp b hb).2.1, (hfp b hb).2.2.2.2.1, (hfp b hb).2.2.2.2.2⟩
      exact hRR _ C s4 H' Hf' xs (I.call' (s' := s4) I4.os I4.base I4.hok I4.bare hch) ⟨m, hn⟩ (I.fpOk (by rw [hC]; exact Nat.le_succ _) I4.free) gr' hxs hD' hfD' hfD
  exact codeAny_compStart_list (loop _ rfl) (T.self _ 0 _ _ _ st1 (loop _ rfl))
theorem compF_some {n : Nat} {fi : FA} {γ : FG} {ft : FT} {f : FE} {ρ : Rho} {ys : List D} (h : compF n caps fi γ ft f ρ = some ys) : ∃ ds, fi ρ = some ds ∧ ds.length ≤ sizeLine ∧ compGo γ ft f ds (compS n caps ρ) = some ys := by
  obtain ⟨ds, e1, e2⟩ := bindA_some h
  split at e2
  · exact ⟨ds, e1, by assumption, e2⟩
  · cases e2
theorem comp_cl {pins : List (Addr × Obj)} {σ : St} {H : Hp} {s : Shared} (I : Inv X pins σ H s) (S : CompScope X.env.scope scope own frees) : ∃ cl, closureFor scope X.env = pure cl ∧ (∀ x c, cl.lookup x = some c → X.env.cells.lookup x = some c) ∧ ∀ n, (n, NameKind.free) ∈ scope.names → ∃ c, cl.lookup n = some c := by
  obtain ⟨cl, e1, e2, _, e4⟩ := closeGo_ex (env := X.env) scope.names [] (fun n hn => I.ok.has n (S.free (n, .free) hn rfl)) (fun x c e => by simp at e)
  exact ⟨cl, closureFor_go e1, e2, e4⟩
theorem dn_comp {tg elt iter : Expr} {ifs : List Expr} {pos : Pos} {fi : FA} {γ : FG} {ft : FT} {f : FE} (hc : X.calm = true) (S : CompScope X.env.scope scope own frees) (hcap : caps.map (fun j => X.N[j]?) = frees.map some) (kn : KeepsNo γ) (hi : DI X tg iter fi)
    (body : ∀ cl C s H fp, DG (cxC X scope cl C (own ++ frees) s H fp) tg γ ∧ DQ (cxC X scope cl C (own ++ frees) s H fp) ifs ft ∧ DE (cxC X scope cl C (own ++ frees) s H fp) elt f)
    (hs : ∀ x, foldedSetIterable iter X.env x = pure x := by intro _; rfl) : DN X (.ListComp elt [⟨tg, iter, ifs, 0⟩] scope pos) (compF own.length caps fi γ ft f) := by
  intro pins s σ H Q I h
  obtain ⟨H₀, Hf₀, ρ, Hf, ys, R, q, k⟩ := h
  obtain ⟨ds, e1, hz, e2⟩ := compF_some q
  obtain ⟨cl, hcl, c1, c2⟩ := comp_cl I S
  rw [eval_ListComp]
  refine wpAny_comprehension_free (use := none) rfl hs hcl S.kind S.loc (thn (hi pins s σ H (fun J H' => ∃ Hf', Rep X.K H₀ Hf₀ σ ρ H' Hf' ∧ Same H H' ∧ Same Hf Hf' ∧ Walks X.K Hf' J ds) I ⟨H₀, Hf₀, ρ, Hf, ds, R, e1, fun J H' Hf' R' s' t' wk => ⟨Hf', R', s', t', wk⟩⟩) fun v s1 h1 => thn h1 fun itv s2 h2 => ?_)
  obtain ⟨it, fp, tn, J, H2, rfl, I2, T, st2, f2, Hf2, R2, s2', t2', wk⟩ := h2
  refine comp_core (RR := compPost (model X.prog X.w) X.A X.xe none (EP X pins σ Q)) hc S hcap kn body c1 c2 I2 T st2 f2 R2 wk hz e2 ?_
  intro D C s' H' Hf' xs I' hns hfC gr hxs hD hfD hD0
  obtain ⟨m, hn⟩ := hns
  refine ⟨m, hn, fun h' hsb => ⟨.ref D, H', ?_, rfl, ?_⟩⟩
  · obtain ⟨f0, f1, f2, f3, f4, f5⟩ := hfC
    exact I'.turned (t' := s'.toks) (fun b o hb e => (hsb.2 b hb).trans e) f0 f1 f3 f4 f5
  · exact k D xs H' Hf' (R2.grows gr) (s2'.trans gr.h) (t2'.trans gr.f) hxs hD hfD (s2'.free hD0)
theorem wp_asgComp {tg elt iter : Expr} {ifs : List Expr} {y : Str} {py pos spos : Pos} {fi : FA} {γ : FG} {ft : FT} {f : FE} (hc : X.calm = true) (S : CompScope X.env.scope scope own frees) (hcap : caps.map (fun j => X.N[j]?) = frees.map some) (kn : KeepsNo γ) (hi : DI X tg iter fi)
    (body : ∀ cl C s H fp, DG (cxC X scope cl C (own ++ frees) s H fp) tg γ ∧ DQ (cxC X scope cl C (own ++ frees) s H fp) ifs ft ∧ DE (cxC X scope cl C (own ++ frees) s H fp) elt f)
    (hsw : swapsWith (.ListComp elt [⟨tg, iter, ifs, 0⟩] scope pos) (some (.Name y py)) spos.line X.env = pure true) (i : Nat) (hN : X.N.Nodup) (hiN : X.N[i]? = some y) (hy : X.env.scope.names.lookup y = some .local)
    (hs : ∀ x, foldedSetIterable iter X.env x = pure x) : PS X (.Assign [.Name y py] (.ListComp elt [⟨tg, iter, ifs, 0⟩] scope pos) spos) (fun D' σ H => ∃ H₀ Hf₀ ρ Hf ys, Rep X.K H₀ Hf₀ σ ρ H Hf ∧ compF own.length caps fi γ ft f ρ = some ys ∧
      ∀ a xs H' Hf', Rep X.K H₀ Hf₀ σ ρ H' Hf' → Same H H' → Same Hf Hf' → HasL X.K Hf' ys xs → H' a = some (.lst xs) → Hf' a = none → H a = none → D'.nx (σ.set i (some (.ref a))) H') := by
  intro pins s σ H D' I h
  obtain ⟨H₀, Hf₀, ρ, Hf, ys, R, q, k⟩ := h
  obtain ⟨ds, e1, hz, e2⟩ := compF_some q
  obtain ⟨cl, hcl, c1, c2⟩ := comp_cl I S
  rw [exec_Assign_Name_used _ _ _ _ hsw]
  refine wpAny_bind (wpAny_standAt (wpAny_bind ?_))
  show wpAny _ X.A (do let _ ← comprehension (.ListComp elt [⟨tg, iter, ifs, 0⟩] scope pos) scope X.env _ (newList []) false (eval iter X.env) (some (assign (.Name y py) X.env))) _ _ s
  refine wpAny_bind (wpAny_mono (wpAny_comprehension_free (use := some (assign (.Name y py) X.env)) (Q := fun _ s' => SP X pins D' .next s') rfl hs hcl S.kind S.loc
    (thn (hi pins s σ H (fun J H' => ∃ Hf', Rep X.K H₀ Hf₀ σ ρ H' Hf' ∧ Same H H' ∧ Same Hf Hf' ∧ Walks X.K Hf' J ds) I ⟨H₀, Hf₀, ρ, Hf, ds, R, e1, fun J H' Hf' R' s' t' wk => ⟨Hf', R', s', t', wk⟩⟩) fun v s1 h1 => thn h1 fun itv s2 h2 => ?_)) (fun _ s' hq => wpAny_pure (wpAny_pure hq)) fun _ _ e => e)
  obtain ⟨it, fp, tn, J, H2, rfl, I2, T, st2, f2, Hf2, R2, s2', t2', wk⟩ := h2
  refine comp_core (RR := compPost (model X.prog X.w) X.A X.xe (some (assign (.Name y py) X.env)) (fun _ s' => SP X pins D' .next s')) hc S hcap kn body c1 c2 I2 T st2 f2 R2 wk hz e2 ?_
  intro D C s' H' Hf' xs I' hns hfC gr hxs hD hfD hD0
  obtain ⟨m, hn⟩ := hns
  show wpAny _ X.A (assign (.Name y py) X.env (.ref D)) _ _ _
  refine wpAny_assign_Name (store_ok2 I' hN hiN (.inl hy) (show RelV (.ref D) (.ref D) from rfl) (fun s'' I'' hsb => ?_) (.inr hy))
  obtain ⟨a, hsb, ha⟩ := hsb
  obtain ⟨f0, f1, f2', f3, f4, f5⟩ := hfC
  have haC : a ≠ C := by
    rcases ha with z | z
    · rw [z]; exact Ne.symm f1
    · exact f4 _ _ z
  refine ⟨m, hn.sameBut hsb (Ne.symm haC), fun h' hsb' => ?_⟩
  exact ⟨_, H', I''.turned (t' := s''.toks) (fun b o hb e => (hsb'.2 b hb).trans e) f0 f1 f3 f4 f5, k D xs H' Hf' (R2.grows gr) (s2'.trans gr.h) (t2'.trans gr.f) hxs hD hfD (s2'.free hD0)⟩
end
end FL
set_option Elab.async false
set_option linter.all false
set_option maxRecDepth 100000
set_option maxHeartbeats 4000000
namespace FL
open PySem PySem.Spec PyProof.Rows L2
structure Draw (P : Program) (w : World) (K : PySem.W.Frag) (J : It) (fp : List Addr) (it : Addr) (tn : Nat → Heap → Prop) : Prop where
  mem : it ∈ fp
  obj : ∀ i h, tn i h → ∀ b ∈ fp, ∃ o, h.get? b = some o ∧ ∀ v, o.data ≠ .cell v
  keep : ∀ i h h', tn i h → (∀ b ∈ fp, ∀ o, h.get? b = some o → h'.get? b = some o) → tn i h'
  item : ∀ (A : Around) (X : Cx), X.prog = P → X.w = w → X.K = K → ∀ (i : Nat) (pins : List (Addr × Obj)) (s : Shared) (σ : St) (H : Hp) (E : Value → Shared → Prop), Inv X pins σ H s → (∀ b ∈ fp, FpOk X pins H b) → tn i s.heap → J.go i H →
    wpAny (model P w) A (Builtin.SmallTypes.nextOf (.ref it)) (fun u s2 => ∃ x H', Inv X pins σ H' s2 ∧ RelV x u ∧ J.yld i H x H' ∧ tn (i + 1) s2.heap ∧ ∀ b ∈ fp, H' b = none) E s
  fin : ∀ (A : Around) (X : Cx), X.prog = P → X.w = w → X.K = K → A.handled = none → ∀ (i : Nat) (pins : List (Addr × Obj)) (s : Shared) (σ : St) (H : Hp) (Q : Value → Shared → Prop), Inv X pins σ H s → (∀ b ∈ fp, FpOk X pins H b) → tn i s.heap → J.stop i H →
    wpAny (model P w) A (Builtin.SmallTypes.nextOf (.ref it)) Q (fun e s2 => Inv X pins σ H s2 ∧ ∃ a o, e = .ref a ∧ s2.heap.get? a = some o ∧ o.cls = .type "StopIteration") s
section
variable {prog : Program} {w : World} {A : Around} {E : Value → Shared → Prop} {s : Shared}
theorem nextOf_tuple_item {it l : Addr} {i : Nat} {items : Array Value} {x : Value} {Q : Value → Shared → Prop} (hit : s.heap.IsTupleIter it l i) (hl : s.heap.IsTuple l items) (hx : items[i]? = some x)
    (hQ : ∀ h', h'.IsTupleIter it l (i + 1) → Heap.SameBut it s.heap h' → Q x { s with heap := h' }) : wpAny (model prog w) A (Builtin.SmallTypes.nextOf (.ref it)) Q E s := by
  obtain ⟨o, ho, hc, hd⟩ := id hit
  obtain ⟨ol, hol, _, nl, hdl⟩ := hl
  unfold Builtin.SmallTypes.nextOf
  refine wpAny_bind (wpAny_callSpecial?_slot (name := Str.ofString "__next__") hit.typeIs F.slot_tuple_iterator_next
    (wpAny_call_entry F.slot_tuple_iterator_next hit.typeIs F.entry_tuple_iterator_next ?_ (F.args_tuple_iterator_next_1 _)))
  show wpAny _ _ (field (.ref it) 0 >>= _) _ _ s
  refine wpAny_bind (wpAny_field ho hd (x := .ref l) rfl ?_)
  show wpAny _ _ (if (Value.ref l == Value.none) = true then _ else _) _ _ s
  rw [if_neg (show ¬ ((Value.ref l == Value.none) = true) from Bool.false_ne_true)]
  show wpAny _ _ (field (.ref it) 1 >>= _) _ _ s
  refine wpAny_bind (wpAny_field ho hd (x := .int i 0) rfl ?_)
  show wpAny _ _ (seqItems? (.ref l) >>= _) _ _ s
  refine wpAny_bind (wpAny_seqItems hol hdl ?_)
  simp only [Int.toNat_natCast, hx]
  refine wpAny_bind (wpAny_setField ho hd (by simp) (wpAny_pure ⟨x, rfl, wpAny_pure (hQ _ ?_ (Heap.SameBut.update ..))⟩))
  exact ⟨_, Heap.get?_update_self _ ho (Obj.isFreed_of_fields (Obj.data_mapFields hd _)), (Obj.cls_mapFields ..).trans hc, by rw [Obj.data_mapFields hd]; simp [rawInt]⟩
theorem nextOf_tuple_end {it l : Addr} {i : Nat} {items : Array Value} {Q : Value → Shared → Prop} (hh : A.handled = none) (hit : s.heap.IsTupleIter it l i) (hl : s.heap.IsTuple l items) (hx : items[i]? = none)
    (hE : ∀ h' e, Heap.ExtBut it s.heap h' → (∃ o, h'.get? e = some o ∧ o.cls = .type "StopIteration") → E (.ref e) { s with heap := h' }) : wpAny (model prog w) A (Builtin.SmallTypes.nextOf (.ref it)) Q E s := by
  obtain ⟨o, ho, hc, hd⟩ := id hit
  obtain ⟨ol, hol, _, nl, hdl⟩ := hl
  unfold Builtin.SmallTypes.nextOf
  refine wpAny_bind (wpAny_callSpecial?_slot (name := Str.ofString "__next__") hit.typeIs F.slot_tuple_iterator_next
    (wpAny_call_entry F.slot_tuple_iterator_next hit.typeIs F.entry_tuple_iterator_next ?_ (F.args_tuple_iterator_next_1 _)))
  show wpAny _ _ (field (.ref it) 0 >>= _) _ _ s
  refine wpAny_bind (wpAny_field ho hd (x := .ref l) rfl ?_)
  show wpAny _ _ (if (Value.ref l == Value.none) = true then _ else _) _ _ s
  rw [if_neg (show ¬ ((Value.ref l == Value.none) = true) from Bool.false_ne_true)]
  show wpAny _ _ (field (.ref it) 1 >>= _) _ _ s
  refine wpAny_bind (wpAny_field ho hd (x := .int i 0) rfl ?_)
  show wpAny _ _ (seqItems? (.ref l) >>= _) _ _ s
  refine wpAny_bind (wpAny_seqItems hol hdl ?_)
  simp only [Int.toNat_natCast, hx]
  refine wpAny_bind (wpAny_rule (wpAny_bind (wpAny_setField ho hd (by simp) ?_)))
  show wpAny _ _ (newExc (.type "StopIteration") [] >>= _) _ _ _
  refine wpAny_bind ?_
  simp only [newExc, newTuple]
  refine wpAny_bind (wpAny_newObj_type ?_ (by size_fits))
  refine wpAny_bind (m := firstArgMember _ _) (wpAny_of_eq (a := Value.none) (by first | rfl | (simp only [firstArgMember]; rfl)) ?_)
  refine wpAny_newObj_type ?_ (by size_fits)
  simp only [raiseNew]
  refine wpAny_bind (wpAny_handled ?_)
  first | rw [show A.in1.handled = none from hh] | rw [hh]
  refine wpAny_bind (wpAny_pure (wpAny_throw ?_))
  exact hE _ _ (((Heap.SameBut.update ..).extBut.push _).push _) ⟨_, Heap.get?_push_size _ rfl, rfl⟩
end
theorem draw_list {P : Program} {w : World} {K : PySem.W.Frag} (a it : Addr) : Draw P w K (Itl K a) [it] it (fun i h => h.IsListIter it a i) where
  mem := by simp
  obj := fun i h st b hb => by
    have e : b = it := by simpa using hb
    subst e
    obtain ⟨o, e, c, d⟩ := st
    exact ⟨o, e, fun v z => by rw [d] at z; cases z⟩
  keep := fun i h h' st k => st.at fun o e => k it (by simp) o e
  item := by
    intro A X hP hw hK i pins s σ H E I hf st hg
    subst hP hw hK
    obtain ⟨xs, x, hq, hx⟩ := hg
    obtain ⟨its, rv, p, hz⟩ := I.list hq
    obtain ⟨u, hu, ru⟩ := rv.get hx
    obtain ⟨f0, f1, f2, f3, f4, f5⟩ := hf it (by simp)
    refine wpAny_nextOf_list_item st p.isList (x := u) (by simpa using hu) fun h' st' sb => ?_
    have I1 : Inv X pins σ H { s with heap := h' } := I.turned (t' := s.toks) (fun b o hb e => (sb.2 b hb).trans e) f0 f1 f3 f4 f5
    exact ⟨x, H, I1, ru, ⟨rfl, fun ys hy => by rw [I.list_inj hy hq]; exact hx⟩, st', fun b hb => (hf b hb).1⟩
  fin := by
    intro A X hP hw hK hh i pins s σ H Q I hf st hg
    subst hP hw hK
    obtain ⟨xs, hq, hx⟩ := hg
    obtain ⟨its, rv, p, hz⟩ := I.list hq
    obtain ⟨f0, f1, f2, f3, f4, f5⟩ := hf it (by simp)
    have hl := rv.length
    refine wpAny_nextOf_list_end hh st p.isList (by simp; omega) fun h' e eb ⟨o, ho, hc⟩ => ⟨I.turned (t' := s.toks) (fun b o hb e => eb b o hb e) f0 f1 f3 f4 f5, e, o, rfl, ho, hc⟩
theorem draw_tuple {P : Program} {w : World} {K : PySem.W.Frag} (a it : Addr) : Draw P w K (Itt K a) [it] it (fun i h => h.IsTupleIter it a i) where
  mem := by simp
  obj := fun i h st b hb => by
    have e : b = it := by simpa using hb
    subst e
    obtain ⟨o, e, c, d⟩ := st
    exact ⟨o, e, fun v z => by rw [d] at z; cases z⟩
  keep := fun i h h' st k => st.at fun o e => k it (by simp) o e
  item := by
    intro A X hP hw hK i pins s σ H E I hf st hg
    subst hP hw hK
    obtain ⟨xs, x, hq, hx⟩ := hg
    obtain ⟨its, rv, p, hz⟩ := I.tuple hq
    obtain ⟨u, hu, ru⟩ := rv.get hx
    obtain ⟨f0, f1, f2, f3, f4, f5⟩ := hf it (by simp)
    refine nextOf_tuple_item st (show s.heap.IsTuple a its.toArray from p) (x := u) (by simpa using hu) fun h' st' sb => ?_
    have I1 : Inv X pins σ H { s with heap := h' } := I.turned (t' := s.toks) (fun b o hb e => (sb.2 b hb).trans e) f0 f1 f3 f4 f5
    exact ⟨x, H, I1, ru, ⟨rfl, fun ys hy => by rw [I.tuple_inj hy hq]; exact hx⟩, st', fun b hb => (hf b hb).1⟩
  fin := by
    intro A X hP hw hK hh i pins s σ H Q I hf st hg
    subst hP hw hK
    obtain ⟨xs, hq, hx⟩ := hg
    obtain ⟨its, rv, p, hz⟩ := I.tuple hq
    obtain ⟨f0, f1, f2, f3, f4, f5⟩ := hf it (by simp)
    have hl := rv.length
    exact nextOf_tuple_end hh st (show s.heap.IsTuple a its.toArray from p) (by simp; omega) fun h' e eb ⟨o, ho, hc⟩ => ⟨I.turned (t' := s.toks) (fun b o hb e => eb b o hb e) f0 f1 f3 f4 f5, e, o, rfl, ho, hc⟩
def ItE (J : It) : It := ⟨J.go, fun i H x H' => ∃ y H1 p, J.yld i H y H1 ∧ H1 p = none ∧ x = .ref p ∧ H' = upd H1 p (.tup [.int i, y]), J.stop⟩
theorem FpOk.more {X : Cx} {pins : List (Addr × Obj)} {H : Hp} {b c : Addr} {h : Heap} (f : FpOk X pins H b) (hne : b ≠ c) : FpOk X (pins ++ pinsAt [c] h) H b := by
  obtain ⟨f0, f1, f2, f3, f4, f5⟩ := f
  refine ⟨f0, f1, f2, f3, f4, fun p hp z => ?_⟩
  rcases List.mem_append.mp hp with q | q
  · exact f5 p (List.mem_append_left _ q) z
  · rcases List.mem_append.mp q with q | q
    · exact f5 p (List.mem_append_right _ q) z
    · have := (of_pinsAt q).1
      have e : p.1 = c := by simpa using this
      exact hne (z ▸ e)
theorem turn_enum {P : Program} {w : World} {K : PySem.W.Frag} {elts : List Expr} {kx : Nat} {tp : Pos} {J : It} {fp : List Addr} {it e : Addr} {tn : Nat → Heap → Prop} (T : Draw P w K J fp it tn) (hne : ∀ b ∈ fp, b ≠ e) :
    Turn P w K (.Tuple elts kx tp) (ItE J) (e :: fp) e (fun i h => tn i h ∧ ∃ old, IsEnum h e it i old) where
  mem := List.mem_cons_self
  obj := fun i h st b hb => by
    rcases List.mem_cons.mp hb with rfl | hb
    · obtain ⟨_, old, he⟩ := st
      exact ⟨_, he, fun v z => by cases z⟩
    · exact T.obj i h st.1 b hb
  keep := fun i h h' st k => ⟨T.keep i h h' st.1 fun b hb o e => k b (List.mem_cons_of_mem _ hb) o e, by obtain ⟨_, old, he⟩ := st; exact ⟨old, k e List.mem_cons_self _ he⟩⟩
  item := by
    intro X hP hw hK hc i pins s σ H E I hf st hg
    subst hP hw hK
    obtain ⟨st, old, he⟩ := st
    have hT : s.TypeIs (.ref e) "enumerate" := ⟨_, he, rfl⟩
    have fe := hf e List.mem_cons_self
    obtain ⟨f0, f1, f2, f3, f4, f5⟩ := id fe
    unfold pyNext
    refine wpAny_bind (wpAny_attempt (wpAny_callSpecial?_slot (name := Str.ofString "__next__") hT F.slot_enumerate_next
      (wpAny_call_entry F.slot_enumerate_next hT F.entry_enumerate_next ?_ (F.args_enumerate_next_1 _))))
    show wpAny _ _ (field (.ref e) 2 >>= _) _ _ _
    refine wpAny_bind (wpAny_field he rfl (x := .ref it) rfl ?_)
    have I0 := I.pinned (fp := [e]) (fun b hb => by have z : b = e := by simpa using hb
                                                    subst z; exact fe) (fun b hb => by have z : b = e := by simpa using hb
                                                                                       subst z; exact ⟨_, he, fun v z => by cases z⟩)
    refine wpAny_bind (wpAny_mono (T.item _ X rfl rfl rfl i _ s σ H _ I0 (fun b hb => FpOk.more (hf b (List.mem_cons_of_mem _ hb)) (hne b hb)) st hg) (fun u s1 h1 => ?_) fun _ _ z => z)
    obtain ⟨x, H1, I1, rx, yl, st1, fr1⟩ := h1
    obtain ⟨he₁, f0', _⟩ := I1.pin _ (List.mem_append_right _ (List.mem_append_right _ (mem_pinsAt (fp := [e]) (by simp) he)))
    have he₁ : IsEnum s1.heap e it i old := he₁
    have f0' : H1 e = none := f0'
    have I1 := I1.unpinned
    obtain ⟨hp, g, d, tk, os⟩ := s1
    show wpAny _ _ (field (.ref e) 3 >>= _) _ _ _
    refine wpAny_bind (wpAny_field he₁ rfl (x := rawInt i) rfl ?_)
    show wpAny _ _ (field (.ref e) 4 >>= _) _ _ _
    refine wpAny_bind (wpAny_field he₁ rfl (x := .none) rfl ?_)
    show wpAny _ _ (mkInt i >>= _) _ _ _
    refine wpAny_bind (wpAny_mkInt ?_)
    show wpAny _ _ (setField (.ref e) 3 (rawInt ((i : Int) + 1)) >>= _) _ _ _
    refine wpAny_bind (wpAny_setField_rec he₁ (by simp) fun h₂ he₂ hs₂ => ?_)
    replace hs₂ : Heap.SameBut e hp h₂ := hs₂
    replace he₂ : IsEnum h₂ e it ((i : Int) + 1) old := he₂
    show wpAny _ _ (setField (.ref e) 4 .none >>= _) _ _ ⟨h₂, g, d, tk + 1, os⟩
    refine wpAny_bind (wpAny_setField_rec he₂ (by simp) fun h₃ he₃ hs₃ => ?_)
    replace hs₃ : Heap.SameBut e h₂ h₃ := hs₃
    replace he₃ : IsEnum h₃ e it ((i : Int) + 1) old := he₃
    have I3 : Inv X pins σ H1 ⟨h₃, g, d, tk + 1, os⟩ := I1.turned (t' := tk + 1) (fun b o hb q => (hs₃.2 b hb).trans ((hs₂.2 b hb).trans q)) f0' f1 f3 f4 f5
    show wpAny _ _ (newTuple [.int i tk, u] >>= _) _ _ ⟨h₃, g, d, tk + 1, os⟩
    refine wpAny_bind (wpAny_newTuple ?_)
    have he₄ : IsEnum (h₃.push { cls := .type "tuple", data := .seq #[.int i tk, u] }) e it ((i : Int) + 1) old := Heap.get?_push_of_some _ he₃
    have hf4 : H1 h₃.objs.size = none := I3.hok.fresh (Nat.le_refl _)
    have I4 : Inv X pins σ (upd H1 h₃.objs.size (.tup [.int i, x])) ⟨h₃.push { cls := .type "tuple", data := .seq #[.int i tk, u] }, g, d, tk + 1, os⟩ :=
      I3.laid (t' := tk + 1) (fun b u e => Heap.get?_push_of_some _ e) (Nat.le_refl _) ⟨by show 2 ≤ sizeLine; decide, [.int i tk, u], .cons ⟨tk, rfl⟩ (.cons rx .nil), ⟨_, Heap.get?_push_size _ rfl, rfl, _, rfl⟩⟩
    have hel : e < h₃.objs.size := Heap.lt_size he₃
    have fe4 : (upd H1 h₃.objs.size (.tup [.int i, x])) e = none := by rw [upd_ne (Nat.ne_of_lt hel)]; exact f0'
    generalize hh₄ : h₃.push { cls := .type "tuple", data := .seq #[.int i tk, u] } = h₄ at he₄ I4
    have st4 : tn (i + 1) h₄ := T.keep _ _ _ st1 fun b hb o q => by rw [← hh₄]; exact Heap.get?_push_of_some _ ((hs₃.2 b (hne b hb)).trans ((hs₂.2 b (hne b hb)).trans q))
    show wpAny _ _ (Builtin.SmallTypes.ownedTupleIsFree (.ref e) >>= _) _ _ ⟨h₄, g, d, tk + 1, os⟩
    refine wpAny_bind ?_
    unfold Builtin.SmallTypes.ownedTupleIsFree
    refine wpAny_bind (wpAny_field he₄ rfl (x := .none) rfl (wpAny_pure ?_))
    simp only [if_true]
    refine wpAny_bind (wpAny_rule ?_)
    refine wpAny_bind (wpAny_field he₄ rfl (x := old) rfl ?_)
    refine wpAny_bind (wpAny_setField_rec he₄ (by simp) fun h₅ he₅ hs₅ => ?_)
    replace hs₅ : Heap.SameBut e h₄ h₅ := hs₅
    replace he₅ : IsEnum h₅ e it ((i : Int) + 1) u := he₅
    show wpAny _ _ (Builtin.SmallTypes.ownedTupleHandOut (.ref e) (.ref h₃.objs.size) >>= _) _ _ ⟨h₅, g, d, tk + 1, os⟩
    refine wpAny_bind ?_
    unfold Builtin.SmallTypes.ownedTupleHandOut
    refine wpAny_bind (wpAny_setField_rec he₅ (by simp) fun h₆ he₆ hs₆ => ?_)
    replace hs₆ : Heap.SameBut e h₅ h₆ := hs₆
    replace he₆ : IsEnumOut h₆ e it ((i : Int) + 1) u h₃.objs.size := he₆
    refine wpAny_setField_rec he₆ (by simp) fun h₇ he₇ hs₇ => ?_
    replace hs₇ : Heap.SameBut e h₆ h₇ := hs₇
    replace he₇ : IsEnumOut h₇ e it ((i : Int) + 1) u h₃.objs.size := he₇
    refine wpAny_bind (wpAny_letGo (wpAny_pure ⟨_, rfl, wpAny_pure ⟨_, rfl, ?_⟩⟩))
    unfold letOwnedTupleGo
    refine wpAny_bind (wpAny_load he₇ ?_)
    show wpAny _ _ (if (["enumerate", "zip", "dict_itemiterator", "dict_reverseitemiterator", "odict_iterator", "itertools.zip_longest", "itertools.pairwise"].contains "enumerate" &&
      (#[rawInt h₃.objs.size, .bool false, .ref it, rawInt ((i : Int) + 1), .none, u] : Array Value)[0]? == some (rawInt h₃.objs.size)) = true then _ else _) _ _ _
    rw [if_pos (by simp)]
    refine wpAny_bind (wpAny_rule ?_)
    show wpAny _ _ (setField (.ref e) 0 .none) _ _ _
    refine wpAny_setField_rec he₇ (by simp) fun h₈ he₈ hs₈ => ?_
    replace hs₈ : Heap.SameBut e h₇ h₈ := hs₈
    replace he₈ : IsEnum h₈ e it ((i : Int) + 1) u := he₈
    have k8 : ∀ b o, b ≠ e → h₄.get? b = some o → h₈.get? b = some o := fun b o hb q => (hs₈.2 b hb).trans ((hs₇.2 b hb).trans ((hs₆.2 b hb).trans ((hs₅.2 b hb).trans q)))
    refine ⟨.ref h₃.objs.size, _, I4.turned (t' := tk + 1) (fun b o hb q => k8 b o hb q) fe4 f1 f3 f4 f5, rfl, ⟨x, H1, h₃.objs.size, yl, hf4, rfl, rfl⟩, ⟨T.keep _ _ _ st4 fun b hb o q => k8 b o (hne b hb) q, u, he₈⟩, fun b hb => ?_⟩
    rcases List.mem_cons.mp hb with rfl | hb
    · exact fe4
    · obtain ⟨o, q, _⟩ := T.obj _ _ st1 b hb
      have q3 : h₃.get? b = some o := (hs₃.2 b (hne b hb)).trans ((hs₂.2 b (hne b hb)).trans q)
      rw [upd_ne (Nat.ne_of_lt (Heap.lt_size q3))]
      exact fr1 b hb
  done := by
    intro X hP hw hK hc i pins s σ H E I hf st hg
    subst hP hw hK
    obtain ⟨st, old, he⟩ := st
    have hT : s.TypeIs (.ref e) "enumerate" := ⟨_, he, rfl⟩
    unfold pyNext
    refine wpAny_bind (wpAny_attempt (wpAny_callSpecial?_slot (name := Str.ofString "__next__") hT F.slot_enumerate_next
      (wpAny_call_entry F.slot_enumerate_next hT F.entry_enumerate_next ?_ (F.args_enumerate_next_1 _))))
    show wpAny _ _ (field (.ref e) 2 >>= _) _ _ _
    refine wpAny_bind (wpAny_field he rfl (x := .ref it) rfl ?_)
    refine wpAny_bind (wpAny_mono (T.fin X.A.in1 X rfl rfl rfl (I.ok.hd hc) i pins s σ H _ I (fun b hb => hf b (List.mem_cons_of_mem _ hb)) st hg) (fun u s1 z => z) fun e' s1 h1 => ?_)
    obtain ⟨I1, a, o, rfl, ho, hcl⟩ := h1
    refine wpAny_bind (wpAny_isInstance (T := "StopIteration") (b := true) ⟨o, ho, hcl⟩ isSubtype_stop ?_)
    exact wpAny_pure ⟨rfl, I1⟩
  self := fun A i s Q E st h => by
    obtain ⟨_, old, he⟩ := st
    have hT : s.TypeIs (.ref e) "enumerate" := ⟨_, he, rfl⟩
    refine wpAny_pyIter_slot hT F.slot_enumerate_iter (wpAny_call_entry F.slot_enumerate_iter hT F.entry_enumerate_iter ?_ (F.args_enumerate_iter_1 _))
    show wpAny _ _ (ret (.ref e)) _ _ s
    exact wpAny_pure ⟨_, rfl, "enumerate", _, hT, F.slot_enumerate_next.lookup, h⟩
end FL
set_option Elab.async false
set_option linter.all false
set_option maxRecDepth 100000
set_option maxHeartbeats 4000000
namespace FL
open PySem PySem.Spec PyProof.Rows L2
def ItZ (J1 J2 : It) : It := ⟨fun i H => J1.go i H ∧ ∀ x H1, J1.yld i H x H1 → J2.go i H1, fun i H x H' => ∃ y1 y2 H1 H2 p, J1.yld i H y1 H1 ∧ J2.yld i H1 y2 H2 ∧ H2 p = none ∧ x = .ref p ∧ H' = upd H2 p (.tup [y1, y2]),
  fun i H => J1.stop i H ∨ (J1.go i H ∧ ∀ x H1, J1.yld i H x H1 → H1 = H ∧ J2.stop i H)⟩
theorem FpOk.moreL {X : Cx} {pins : List (Addr × Obj)} {H : Hp} {b : Addr} {L : List Addr} {h : Heap} (f : FpOk X pins H b) (hne : b ∉ L) : FpOk X (pins ++ pinsAt L h) H b := by
  obtain ⟨f0, f1, f2, f3, f4, f5⟩ := f
  refine ⟨f0, f1, f2, f3, f4, fun p hp z => ?_⟩
  rcases List.mem_append.mp hp with q | q
  · exact f5 p (List.mem_append_left _ q) z
  · rcases List.mem_append.mp q with q | q
    · exact f5 p (List.mem_append_right _ q) z
    · have := (of_pinsAt q).1
      exact hne (z ▸ this)
theorem pin_of {X : Cx} {pins : List (Addr × Obj)} {L : List Addr} {h : Heap} {σ : St} {H : Hp} {s : Shared} (I : Inv X (pins ++ pinsAt L h) σ H s) {b : Addr} {o : Obj} (hb : b ∈ L) (e : h.get? b = some o) : s.heap.get? b = some o ∧ H b = none := by
  obtain ⟨q1, q2, _⟩ := I.pin _ (List.mem_append_right _ (List.mem_append_right _ (mem_pinsAt hb e)))
  exact ⟨q1, q2⟩
theorem turned1 {X : Cx} {pins : List (Addr × Obj)} {σ : St} {H : Hp} {s : Shared} {h' : Heap} {t' : Nat} {b : Addr} (I : Inv X pins σ H s) (hs : Heap.SameBut b s.heap h') (f : FpOk X pins H b) : Inv X pins σ H { s with heap := h', toks := t' } := by
  obtain ⟨f0, f1, f2, f3, f4, f5⟩ := f
  exact I.turned (t' := t') (fun c o hb q => (hs.2 c hb).trans q) f0 f1 f3 f4 f5
structure ZApart (z TI TO : Addr) (fp1 fp2 : List Addr) : Prop where
  a1 : z ≠ TI
  a2 : z ≠ TO
  a3 : TI ≠ TO
  z1 : ∀ b ∈ fp1 ++ fp2, b ≠ z
  z2 : ∀ b ∈ fp1 ++ fp2, b ≠ TI
  z3 : ∀ b ∈ fp1 ++ fp2, b ≠ TO
  d : ∀ b ∈ fp1, b ∉ fp2
section
variable {P : Program} {w : World} {K : PySem.W.Frag} {J1 J2 : It} {fp1 fp2 : List Addr} {i1 i2 z TI TO : Addr} {tn1 tn2 : Nat → Heap → Prop}
def tnZ (tn1 tn2 : Nat → Heap → Prop) (z TI TO i1 i2 : Addr) (i : Nat) (h : Heap) : Prop := tn1 i h ∧ tn2 i h ∧ IsZip h z TI TO .none ∧ IsPair h TI (.ref i1) (.ref i2) ∧ ∃ a b, IsPair h TO a b
theorem turn_zip {elts : List Expr} {kx : Nat} {tp : Pos} (D1 : Draw P w K J1 fp1 i1 tn1) (D2 : Draw P w K J2 fp2 i2 tn2) (Z : ZApart z TI TO fp1 fp2) :
    Turn P w K (.Tuple elts kx tp) (ItZ J1 J2) (z :: TI :: TO :: (fp1 ++ fp2)) z (tnZ tn1 tn2 z TI TO i1 i2) where
  mem := List.mem_cons_self
  obj := fun i h st b hb => by
    obtain ⟨s1, s2, hz, hTI, a, b', hTO⟩ := st
    rcases List.mem_cons.mp hb with rfl | hb
    · exact ⟨_, hz, fun v z => by cases z⟩
    rcases List.mem_cons.mp hb with rfl | hb
    · exact ⟨_, hTI, fun v z => by cases z⟩
    rcases List.mem_cons.mp hb with rfl | hb
    · exact ⟨_, hTO, fun v z => by cases z⟩
    rcases List.mem_append.mp hb with hb | hb
    · exact D1.obj i h s1 b hb
    · exact D2.obj i h s2 b hb
  keep := fun i h h' st k => by
    obtain ⟨s1, s2, hz, hTI, a, b', hTO⟩ := st
    refine ⟨D1.keep i h h' s1 fun b hb o e => k b (by simp [hb]) o e, D2.keep i h h' s2 fun b hb o e => k b (by simp [hb]) o e, k z (by simp) _ hz, k TI (by simp) _ hTI, a, b', k TO (by simp) _ hTO⟩
  item := by
    intro X hP hw hK hc i pins s σ H E I hf st hg
    subst hP hw hK
    obtain ⟨s1, s2, hz, hTI, a, b', hTO⟩ := st
    obtain ⟨g1, g2⟩ := hg
    have hT : s.TypeIs (.ref z) "zip" := ⟨_, hz, rfl⟩
    have fz := hf z (by simp)
    have fTI := hf TI (by simp)
    have fTO := hf TO (by simp)
    have ff1 : ∀ b ∈ fp1, FpOk X pins H b := fun b hb => hf b (by simp [hb])
    have ff2 : ∀ b ∈ fp2, FpOk X pins H b := fun b hb => hf b (by simp [hb])
    have n1z : ∀ b ∈ fp1, b ≠ z := fun b hb => Z.z1 b (by simp [hb])
    have n2z : ∀ b ∈ fp2, b ≠ z := fun b hb => Z.z1 b (by simp [hb])
    have n1I : ∀ b ∈ fp1, b ≠ TI := fun b hb => Z.z2 b (by simp [hb])
    have n2I : ∀ b ∈ fp2, b ≠ TI := fun b hb => Z.z2 b (by simp [hb])
    have n1O : ∀ b ∈ fp1, b ≠ TO := fun b hb => Z.z3 b (by simp [hb])
    have n2O : ∀ b ∈ fp2, b ≠ TO := fun b hb => Z.z3 b (by simp [hb])
    unfold pyNext
    refine wpAny_bind (wpAny_attempt (wpAny_callSpecial?_slot (name := Str.ofString "__next__") hT F.slot_zip_next (wpAny_call_entry F.slot_zip_next hT F.entry_zip_next ?_ (F.args_zip_next_1 _))))
    show wpAny _ _ (field (.ref z) 2 >>= _) _ _ _
    refine wpAny_bind (wpAny_field hz rfl (x := .bool false) rfl ?_)
    show wpAny _ _ (field (.ref z) 3 >>= _) _ _ _
    refine wpAny_bind (wpAny_field hz rfl (x := .ref TI) rfl ?_)
    refine wpAny_bind (wpAny_seqItems hTI rfl ?_)
    show wpAny _ _ (Builtin.SmallTypes.ownedTupleIsFree (.ref z) >>= _) _ _ _
    refine wpAny_bind ?_
    unfold Builtin.SmallTypes.ownedTupleIsFree
    refine wpAny_bind (wpAny_field hz rfl (x := .none) rfl (wpAny_pure ?_))
    simp only [if_true]
    refine wpAny_bind (wpAny_rule ?_)
    refine wpAny_bind (wpAny_field hz rfl (x := .ref TO) rfl ?_)
    refine wpAny_bind (wpAny_setField_rec hz (by simp) fun h₁ hz₁ hs₁ => ?_)
    replace hz₁ : IsZip h₁ z TI TO .ellipsis := hz₁
    have I1 : Inv X pins σ H { s with heap := h₁ } := turned1 (t' := s.toks) I hs₁ fz
    have hTI₁ : IsPair h₁ TI (.ref i1) (.ref i2) := (hs₁.2 TI (Ne.symm Z.a1)).trans hTI
    have hTO₁ : IsPair h₁ TO a b' := (hs₁.2 TO (Ne.symm Z.a2)).trans hTO
    have s1₁ : tn1 i h₁ := D1.keep _ _ _ s1 fun b hb o e => (hs₁.2 b (n1z b hb)).trans e
    have s2₁ : tn2 i h₁ := D2.keep _ _ _ s2 fun b hb o e => (hs₁.2 b (n2z b hb)).trans e
    refine wpAny_bind ?_
    simp only [List.zipIdx_cons, List.zipIdx_nil, List.forIn_cons, List.forIn_nil]
    refine wpAny_bind (wpAny_bind (wpAny_onRaise ?_))
    show wpAny _ _ (Builtin.SmallTypes.nextOf (.ref i1) >>= _) _ _ _
    have I1p := I1.pinned (fp := z :: TI :: TO :: fp2) (fun b hb => by
      rcases List.mem_cons.mp hb with rfl | hb
      · exact fz
      rcases List.mem_cons.mp hb with rfl | hb
      · exact fTI
      rcases List.mem_cons.mp hb with rfl | hb
      · exact fTO
      · exact ff2 b hb) (fun b hb => by
      rcases List.mem_cons.mp hb with rfl | hb
      · exact ⟨_, hz₁, fun v z => by cases z⟩
      rcases List.mem_cons.mp hb with rfl | hb
      · exact ⟨_, hTI₁, fun v z => by cases z⟩
      rcases List.mem_cons.mp hb with rfl | hb
      · exact ⟨_, hTO₁, fun v z => by cases z⟩
      · exact D2.obj _ _ s2₁ b hb)
    refine wpAny_bind (wpAny_mono (D1.item _ X rfl rfl rfl i _ _ σ H _ I1p (fun b hb => FpOk.moreL (ff1 b hb) (by
      intro hm
      rcases List.mem_cons.mp hm with e | hm
      · exact n1z b hb e
      rcases List.mem_cons.mp hm with e | hm
      · exact n1I b hb e
      rcases List.mem_cons.mp hm with e | hm
      · exact n1O b hb e
      · exact Z.d b hb hm)) s1₁ g1) (fun u1 s3 h3 => wpAny_pure ?_) fun _ _ z => z)
    obtain ⟨x1, H3, I3, r3, y3, st3, fr3⟩ := h3
    obtain ⟨hz₃, fz3⟩ := pin_of I3 (b := z) (by simp) hz₁
    obtain ⟨hTI₃, fTI3⟩ := pin_of I3 (b := TI) (by simp) hTI₁
    obtain ⟨hTO₃, fTO3⟩ := pin_of I3 (b := TO) (by simp) hTO₁
    have hz₃ : IsZip s3.heap z TI TO .ellipsis := hz₃
    have hTI₃ : IsPair s3.heap TI (.ref i1) (.ref i2) := hTI₃
    have hTO₃ : IsPair s3.heap TO a b' := hTO₃
    have s2₃ : tn2 i s3.heap := D2.keep _ _ _ s2₁ fun b hb o e => (pin_of I3 (by simp [hb]) e).1
    have ff2₃ : ∀ b ∈ fp2, H3 b = none := fun b hb => by
      obtain ⟨o, e, _⟩ := D2.obj _ _ s2₁ b hb
      exact (pin_of I3 (by simp [hb]) e).2
    have I3 := I3.unpinned
    refine wpAny_bind (wpAny_seqItems hTO₃ rfl ?_)
    refine wpAny_bind (wpAny_updateSeq_pair hTO₃ fun h₄ hTO₄ hs₄ => ?_)
    replace hTO₄ : IsPair h₄ TO u1 b' := hTO₄
    refine wpAny_bind (wpAny_letGo (wpAny_pure ?_))
    have I4 : Inv X pins σ H3 { s3 with heap := h₄ } := turned1 (t' := s3.toks) I3 hs₄ ⟨fTO3, fTO.2⟩
    have hz₄ : IsZip h₄ z TI TO .ellipsis := (hs₄.2 z Z.a2).trans hz₃
    have hTI₄ : IsPair h₄ TI (.ref i1) (.ref i2) := (hs₄.2 TI Z.a3).trans hTI₃
    have st4 : tn1 (i + 1) h₄ := D1.keep _ _ _ st3 fun b hb o e => (hs₄.2 b (n1O b hb)).trans e
    have s2₄ : tn2 i h₄ := D2.keep _ _ _ s2₃ fun b hb o e => (hs₄.2 b (n2O b hb)).trans e
    refine wpAny_bind (wpAny_bind (wpAny_onRaise ?_))
    show wpAny _ _ (Builtin.SmallTypes.nextOf (.ref i2) >>= _) _ _ _
    have I4p := I4.pinned (fp := z :: TI :: TO :: fp1) (fun b hb => by
      rcases List.mem_cons.mp hb with rfl | hb
      · exact ⟨fz3, fz.2⟩
      rcases List.mem_cons.mp hb with rfl | hb
      · exact ⟨fTI3, fTI.2⟩
      rcases List.mem_cons.mp hb with rfl | hb
      · exact ⟨fTO3, fTO.2⟩
      · exact ⟨fr3 b hb, (ff1 b hb).2⟩) (fun b hb => by
      rcases List.mem_cons.mp hb with rfl | hb
      · exact ⟨_, hz₄, fun v z => by cases z⟩
      rcases List.mem_cons.mp hb with rfl | hb
      · exact ⟨_, hTI₄, fun v z => by cases z⟩
      rcases List.mem_cons.mp hb with rfl | hb
      · exact ⟨_, hTO₄, fun v z => by cases z⟩
      · exact D1.obj _ _ st4 b hb)
    refine wpAny_bind (wpAny_mono (D2.item _ X rfl rfl rfl i _ _ σ H3 _ I4p (fun b hb => FpOk.moreL ⟨ff2₃ b hb, (ff2 b hb).2⟩ (by
      intro hm
      rcases List.mem_cons.mp hm with e | hm
      · exact n2z b hb e
      rcases List.mem_cons.mp hm with e | hm
      · exact n2I b hb e
      rcases List.mem_cons.mp hm with e | hm
      · exact n2O b hb e
      · exact Z.d b hm hb)) s2₄ (g2 _ _ y3)) (fun u2 s5 h5 => wpAny_pure ?_) fun _ _ z => z)
    obtain ⟨x2, H5, I5, r5, y5, st5, fr5⟩ := h5
    obtain ⟨hz₅, fz5⟩ := pin_of I5 (b := z) (by simp) hz₄
    obtain ⟨hTI₅, fTI5⟩ := pin_of I5 (b := TI) (by simp) hTI₄
    obtain ⟨hTO₅, fTO5⟩ := pin_of I5 (b := TO) (by simp) hTO₄
    have hz₅ : IsZip s5.heap z TI TO .ellipsis := hz₅
    have hTI₅ : IsPair s5.heap TI (.ref i1) (.ref i2) := hTI₅
    have hTO₅ : IsPair s5.heap TO u1 b' := hTO₅
    have st5' : tn1 (i + 1) s5.heap := D1.keep _ _ _ st4 fun b hb o e => (pin_of I5 (by simp [hb]) e).1
    have ff1₅ : ∀ b ∈ fp1, H5 b = none := fun b hb => by
      obtain ⟨o, e, _⟩ := D1.obj _ _ st4 b hb
      exact (pin_of I5 (by simp [hb]) e).2
    have I5 := I5.unpinned
    refine wpAny_bind (wpAny_seqItems hTO₅ rfl ?_)
    refine wpAny_bind (wpAny_updateSeq_pair hTO₅ fun h₆ hTO₆ hs₆ => ?_)
    replace hTO₆ : IsPair h₆ TO u1 u2 := hTO₆
    refine wpAny_bind (wpAny_letGo (wpAny_pure (wpAny_pure ?_)))
    have I6 : Inv X pins σ H5 { s5 with heap := h₆ } := turned1 (t' := s5.toks) I5 hs₆ ⟨fTO5, fTO.2⟩
    have hz₆ : IsZip h₆ z TI TO .ellipsis := (hs₆.2 z Z.a2).trans hz₅
    have hTI₆ : IsPair h₆ TI (.ref i1) (.ref i2) := (hs₆.2 TI Z.a3).trans hTI₅
    have st6 : tn1 (i + 1) h₆ := D1.keep _ _ _ st5' fun b hb o e => (hs₆.2 b (n1O b hb)).trans e
    have st6' : tn2 (i + 1) h₆ := D2.keep _ _ _ st5 fun b hb o e => (hs₆.2 b (n2O b hb)).trans e
    refine wpAny_bind (wpAny_seqItems hTO₆ rfl ?_)
    refine wpAny_bind (wpAny_newTuple ?_)
    have hf7 : H5 h₆.objs.size = none := I6.hok.fresh (Nat.le_refl _)
    have I7 : Inv X pins σ (upd H5 h₆.objs.size (.tup [x1, x2])) { s5 with heap := h₆.push { cls := .type "tuple", data := .seq #[u1, u2] } } :=
      I6.laid (t' := s5.toks) (fun b u e => Heap.get?_push_of_some _ e) (Nat.le_refl _) ⟨by show 2 ≤ sizeLine; decide, [u1, u2], .cons r3 (.cons r5 .nil), ⟨_, Heap.get?_push_size _ rfl, rfl, _, rfl⟩⟩
    have lz : z < h₆.objs.size := Heap.lt_size hz₆
    have lTI : TI < h₆.objs.size := Heap.lt_size hTI₆
    have lTO : TO < h₆.objs.size := Heap.lt_size hTO₆
    show wpAny _ _ (Builtin.SmallTypes.ownedTupleHandOut (.ref z) (.ref h₆.objs.size) >>= _) _ _ _
    refine wpAny_bind ?_
    unfold Builtin.SmallTypes.ownedTupleHandOut
    have hz₇ : IsZip (h₆.push { cls := .type "tuple", data := .seq #[u1, u2] }) z TI TO .ellipsis := Heap.get?_push_of_some _ hz₆
    refine wpAny_bind (wpAny_setField_rec hz₇ (by simp) fun h₈ hz₈ hs₈ => ?_)
    replace hz₈ : IsZip h₈ z TI TO (rawInt h₆.objs.size) := hz₈
    refine wpAny_setField_rec hz₈ (by simp) fun h₉ hz₉ hs₉ => ?_
    replace hz₉ : IsZip h₉ z TI TO (rawInt h₆.objs.size) := hz₉
    refine wpAny_pure ⟨_, rfl, wpAny_pure ⟨_, rfl, ?_⟩⟩
    refine wpAny_letOwnedTupleGo_zip hz₉ fun h₀ hz₀ hs₀ => ?_
    have up : ∀ c o, c ≠ z → h₆.get? c = some o → h₀.get? c = some o := fun c o hc e => (hs₀.2 c hc).trans ((hs₉.2 c hc).trans ((hs₈.2 c hc).trans (Heap.get?_push_of_some _ e)))
    have fz7 : (upd H5 h₆.objs.size (.tup [x1, x2])) z = none := by rw [upd_ne (Nat.ne_of_lt lz)]; exact fz5
    refine ⟨.ref h₆.objs.size, _, I7.turned (t' := s5.toks) (fun b o hb q => (hs₀.2 b hb).trans ((hs₉.2 b hb).trans ((hs₈.2 b hb).trans q))) fz7 fz.2.1 fz.2.2.2.1 fz.2.2.2.2.1 fz.2.2.2.2.2, rfl, ⟨x1, x2, H3, H5, _, y3, y5, hf7, rfl, rfl⟩,
      ⟨D1.keep _ _ _ st6 fun b hb o e => up b o (n1z b hb) e, D2.keep _ _ _ st6' fun b hb o e => up b o (n2z b hb) e, hz₀, up _ _ (Ne.symm Z.a1) hTI₆, _, _, up _ _ (Ne.symm Z.a2) hTO₆⟩, fun b hb => ?_⟩
    have old : ∀ b, b < h₆.objs.size → H5 b = none → (upd H5 h₆.objs.size (.tup [x1, x2])) b = none := fun b hl hn => by rw [upd_ne (Nat.ne_of_lt hl)]; exact hn
    rcases List.mem_cons.mp hb with rfl | hb
    · exact fz7
    rcases List.mem_cons.mp hb with rfl | hb
    · exact old _ lTI fTI5
    rcases List.mem_cons.mp hb with rfl | hb
    · exact old _ lTO fTO5
    rcases List.mem_append.mp hb with hb | hb
    · obtain ⟨o, q, _⟩ := D1.obj _ _ st6 b hb
      exact old b (Heap.lt_size q) (ff1₅ b hb)
    · obtain ⟨o, q, _⟩ := D2.obj _ _ st6' b hb
      exact old b (Heap.lt_size q) (fr5 b hb)
  done := by
    intro X hP hw hK hc i pins s σ H E I hf st hg
    subst hP hw hK
    obtain ⟨s1, s2, hz, hTI, a, b', hTO⟩ := st
    have hT : s.TypeIs (.ref z) "zip" := ⟨_, hz, rfl⟩
    have fz := hf z (by simp)
    have fTI := hf TI (by simp)
    have fTO := hf TO (by simp)
    have ff1 : ∀ b ∈ fp1, FpOk X pins H b := fun b hb => hf b (by simp [hb])
    have ff2 : ∀ b ∈ fp2, FpOk X pins H b := fun b hb => hf b (by simp [hb])
    have n1z : ∀ b ∈ fp1, b ≠ z := fun b hb => Z.z1 b (by simp [hb])
    have n2z : ∀ b ∈ fp2, b ≠ z := fun b hb => Z.z1 b (by simp [hb])
    have n1I : ∀ b ∈ fp1, b ≠ TI := fun b hb => Z.z2 b (by simp [hb])
    have n2I : ∀ b ∈ fp2, b ≠ TI := fun b hb => Z.z2 b (by simp [hb])
    have n1O : ∀ b ∈ fp1, b ≠ TO := fun b hb => Z.z3 b (by simp [hb])
    have n2O : ∀ b ∈ fp2, b ≠ TO := fun b hb => Z.z3 b (by simp [hb])
    unfold pyNext
    refine wpAny_bind (wpAny_attempt (wpAny_callSpecial?_slot (name := Str.ofString "__next__") hT F.slot_zip_next (wpAny_call_entry F.slot_zip_next hT F.entry_zip_next ?_ (F.args_zip_next_1 _))))
    show wpAny _ _ (field (.ref z) 2 >>= _) _ _ _
    refine wpAny_bind (wpAny_field hz rfl (x := .bool false) rfl ?_)
    show wpAny _ _ (field (.ref z) 3 >>= _) _ _ _
    refine wpAny_bind (wpAny_field hz rfl (x := .ref TI) rfl ?_)
    refine wpAny_bind (wpAny_seqItems hTI rfl ?_)
    show wpAny _ _ (Builtin.SmallTypes.ownedTupleIsFree (.ref z) >>= _) _ _ _
    refine wpAny_bind ?_
    unfold Builtin.SmallTypes.ownedTupleIsFree
    refine wpAny_bind (wpAny_field hz rfl (x := .none) rfl (wpAny_pure ?_))
    simp only [if_true]
    refine wpAny_bind (wpAny_rule ?_)
    refine wpAny_bind (wpAny_field hz rfl (x := .ref TO) rfl ?_)
    refine wpAny_bind (wpAny_setField_rec hz (by simp) fun h₁ hz₁ hs₁ => ?_)
    replace hz₁ : IsZip h₁ z TI TO .ellipsis := hz₁
    have I1 : Inv X pins σ H { s with heap := h₁ } := turned1 (t' := s.toks) I hs₁ fz
    have hTI₁ : IsPair h₁ TI (.ref i1) (.ref i2) := (hs₁.2 TI (Ne.symm Z.a1)).trans hTI
    have hTO₁ : IsPair h₁ TO a b' := (hs₁.2 TO (Ne.symm Z.a2)).trans hTO
    have s1₁ : tn1 i h₁ := D1.keep _ _ _ s1 fun b hb o e => (hs₁.2 b (n1z b hb)).trans e
    have s2₁ : tn2 i h₁ := D2.keep _ _ _ s2 fun b hb o e => (hs₁.2 b (n2z b hb)).trans e
    have I1p := I1.pinned (fp := z :: TI :: TO :: fp2) (fun b hb => by
      rcases List.mem_cons.mp hb with rfl | hb
      · exact fz
      rcases List.mem_cons.mp hb with rfl | hb
      · exact fTI
      rcases List.mem_cons.mp hb with rfl | hb
      · exact fTO
      · exact ff2 b hb) (fun b hb => by
      rcases List.mem_cons.mp hb with rfl | hb
      · exact ⟨_, hz₁, fun v z => by cases z⟩
      rcases List.mem_cons.mp hb with rfl | hb
      · exact ⟨_, hTI₁, fun v z => by cases z⟩
      rcases List.mem_cons.mp hb with rfl | hb
      · exact ⟨_, hTO₁, fun v z => by cases z⟩
      · exact D2.obj _ _ s2₁ b hb)
    have out1 : ∀ b ∈ fp1, FpOk X (pins ++ pinsAt (z :: TI :: TO :: fp2) h₁) H b := fun b hb => FpOk.moreL (ff1 b hb) (by
      intro hm
      rcases List.mem_cons.mp hm with e | hm
      · exact n1z b hb e
      rcases List.mem_cons.mp hm with e | hm
      · exact n1I b hb e
      rcases List.mem_cons.mp hm with e | hm
      · exact n1O b hb e
      · exact Z.d b hb hm)
    refine wpAny_bind ?_
    simp only [List.zipIdx_cons, List.zipIdx_nil, List.forIn_cons, List.forIn_nil]
    refine wpAny_bind (wpAny_bind (wpAny_onRaise ?_))
    show wpAny _ _ (Builtin.SmallTypes.nextOf (.ref i1) >>= _) _ _ _
    rcases hg with hg | ⟨g1, hg⟩
    · refine wpAny_bind (wpAny_mono (D1.fin X.A.in1 X rfl rfl rfl (I.ok.hd hc) i _ _ σ H _ I1p out1 s1₁ hg) (fun _ _ z => z) fun e s3 h3 => ?_)
      obtain ⟨I3, c, o, rfl, ho, hcl⟩ := h3
      obtain ⟨hz₃, fz3⟩ := pin_of I3 (b := z) (by simp) hz₁
      have hz₃ : IsZip s3.heap z TI TO .ellipsis := hz₃
      have hcz : c ≠ z := fun x => by subst x; rw [hz₃] at ho; cases ho; simp at hcl
      refine wpAny_setField_rec hz₃ (by simp) fun h₄ hz₄ hs₄ => ?_
      refine wpAny_bind (wpAny_isInstance (T := "StopIteration") (b := true) ⟨o, (hs₄.2 c hcz).trans ho, hcl⟩ isSubtype_stop ?_)
      exact wpAny_pure ⟨rfl, turned1 (t' := s3.toks) I3.unpinned hs₄ ⟨fz3, fz.2⟩⟩
    · refine wpAny_bind (wpAny_mono (D1.item _ X rfl rfl rfl i _ _ σ H _ I1p out1 s1₁ g1) (fun u1 s3 h3 => wpAny_pure ?_) fun _ _ z => z)
      obtain ⟨x1, H3, I3, r3, y3, st3, fr3⟩ := h3
      obtain ⟨rfl, hst⟩ := hg _ _ y3
      obtain ⟨hz₃, fz3⟩ := pin_of I3 (b := z) (by simp) hz₁
      obtain ⟨hTI₃, fTI3⟩ := pin_of I3 (b := TI) (by simp) hTI₁
      obtain ⟨hTO₃, fTO3⟩ := pin_of I3 (b := TO) (by simp) hTO₁
      have hz₃ : IsZip s3.heap z TI TO .ellipsis := hz₃
      have hTO₃ : IsPair s3.heap TO a b' := hTO₃
      have s2₃ : tn2 i s3.heap := D2.keep _ _ _ s2₁ fun b hb o e => (pin_of I3 (by simp [hb]) e).1
      have I3 := I3.unpinned
      refine wpAny_bind (wpAny_seqItems hTO₃ rfl ?_)
      refine wpAny_bind (wpAny_updateSeq_pair hTO₃ fun h₄ hTO₄ hs₄ => ?_)
      refine wpAny_bind (wpAny_letGo (wpAny_pure ?_))
      have I4 : Inv X pins σ H3 { s3 with heap := h₄ } := turned1 (t' := s3.toks) I3 hs₄ ⟨fTO3, fTO.2⟩
      have hz₄ : IsZip h₄ z TI TO .ellipsis := (hs₄.2 z Z.a2).trans hz₃
      have s2₄ : tn2 i h₄ := D2.keep _ _ _ s2₃ fun b hb o e => (hs₄.2 b (n2O b hb)).trans e
      refine wpAny_bind (wpAny_bind (wpAny_onRaise ?_))
      show wpAny _ _ (Builtin.SmallTypes.nextOf (.ref i2) >>= _) _ _ _
      have I4p := I4.pinned (fp := [z]) (fun b hb => by
        have e : b = z := by simpa using hb
        subst e; exact ⟨fz3, fz.2⟩) (fun b hb => by
        have e : b = z := by simpa using hb
        subst e; exact ⟨_, hz₄, fun v z => by cases z⟩)
      refine wpAny_bind (wpAny_mono (D2.fin X.A.in1 X rfl rfl rfl (I.ok.hd hc) i _ _ σ H3 _ I4p (fun b hb => FpOk.moreL (ff2 b hb) (by
        intro hm
        exact n2z b hb (by simpa using hm))) s2₄ hst) (fun _ _ z => z) fun e s5 h5 => ?_)
      obtain ⟨I5, c, o, rfl, ho, hcl⟩ := h5
      obtain ⟨hz₅, fz5⟩ := pin_of I5 (b := z) (by simp) hz₄
      have hz₅ : IsZip s5.heap z TI TO .ellipsis := hz₅
      have hcz : c ≠ z := fun x => by subst x; rw [hz₅] at ho; cases ho; simp at hcl
      refine wpAny_setField_rec hz₅ (by simp) fun h₆ hz₆ hs₆ => ?_
      refine wpAny_bind (wpAny_isInstance (T := "StopIteration") (b := true) ⟨o, (hs₆.2 c hcz).trans ho, hcl⟩ isSubtype_stop ?_)
      exact wpAny_pure ⟨rfl, turned1 (t' := s5.toks) I5.unpinned hs₆ ⟨fz5, fz.2⟩⟩
  self := fun A i s Q E st h => wpAny_pyIter_zip st.2.2.1 h
end
end FL
set_option Elab.async false
set_option linter.all false
set_option maxRecDepth 100000
set_option maxHeartbeats 4000000
namespace FL
open PySem PySem.Spec PyProof.Rows L2
def SqH (b : Bool) (h : Heap) (a : Addr) (its : Array Value) : Prop := if b = true then h.IsList a its else h.IsTuple a its
def itObj (b : Bool) (a : Addr) : Obj := { cls := .type (if b = true then "list_iterator" else "tuple_iterator"), data := .fields #[.ref a, .int 0 0] }
theorem SqH.push {b : Bool} {h : Heap} {a : Addr} {its : Array Value} (q : SqH b h a its) (o : Obj) : SqH b (h.push o) a its := by
  cases b with
  | true => exact Heap.IsList.push q o
  | false => exact Heap.IsTuple.push q o
section
variable {prog : Program} {w : World} {A : Around} {E : Value → Shared → Prop} {s : Shared}
theorem pyIter_sq {b : Bool} {a : Addr} {its : Array Value} {Q : Value → Shared → Prop} (q : SqH b s.heap a its) (h : Q (.ref s.heap.objs.size) { s with heap := s.heap.push (itObj b a) }) : wpAny (model prog w) A (pyIter (.ref a)) Q E s := by
  cases b with
  | true => exact wpAny_pyIter_list q h
  | false => exact wpAny_pyIter_tuple q h
theorem meets_enum (b : Bool) (a : Addr) (its : Array Value) :
    Meets (Builtin.«enumerate.__new__» ⟨[.type "enumerate", .ref a], []⟩) (fun _ R s => SqH b s.heap a its ∧
      R (.ok (.ret (.ref (s.heap.push (itObj b a)).objs.size))) { s with heap := (s.heap.push (itObj b a)).push { cls := .type "enumerate", data := .fields #[.none, .bool false, .ref s.heap.objs.size, rawInt 0, .none, .none] } }) :=
  .of_wp fun prog w A R s h => by
    obtain ⟨hp, g, d, tk, os⟩ := s; obtain ⟨hl, h⟩ := h
    have hsub := sub_enumerate
    have hL : SqH b (Shared.heap ⟨hp, g, d, tk, os⟩) a its := hl
    wp_walk using pyIter_sq hL
    refine wpAny_stack_any fun st => wpAny_pure ?_
    split
    · rename_i c _ _ _ _ _
      cases (c == Value.type "enumerate")
      · wp_walk using pyIter_sq hL
        exact ⟨_, rfl, h⟩
      · wp_walk using pyIter_sq hL
        exact ⟨_, rfl, h⟩
    · wp_walk using pyIter_sq hL
      exact ⟨_, rfl, h⟩
theorem call_enum {b : Bool} {a : Addr} {its : Array Value} {Q : Value → Shared → Prop} (hL : SqH b s.heap a its)
    (h : ∀ h', IsEnum h' (s.heap.objs.size + 1) s.heap.objs.size 0 .none → h'.get? s.heap.objs.size = some (itObj b a) → (∀ b o, s.heap.get? b = some o → h'.get? b = some o) → Q (.ref (s.heap.objs.size + 1)) { s with heap := h' }) :
    wpAny (model prog w) A (call (.type "enumerate") [.ref a]) Q E s := by
  refine callType_new F.called_enumerate (by decide) (F.typeCall_enumerate_1 _) (F.newCall_enumerate_1 _) (fun obj => F.args_object_init_2 obj _) F.entry_enumerate_new (meets_enum b a its) ⟨hL, ?_⟩
  have hz : (s.heap.push (itObj b a)).objs.size = s.heap.objs.size + 1 := Heap.size_push ..
  show _ ∧ _
  rw [hz]
  have he : IsEnum ((s.heap.push (itObj b a)).push { cls := .type "enumerate", data := .fields #[.none, .bool false, .ref s.heap.objs.size, rawInt 0, .none, .none] }) (s.heap.objs.size + 1) s.heap.objs.size 0 .none := by
    have := Heap.get?_push_size (s.heap.push (itObj b a)) (o := { cls := .type "enumerate", data := .fields #[.none, .bool false, .ref s.heap.objs.size, rawInt 0, .none, .none] }) rfl
    rw [hz] at this; exact this
  exact ⟨⟨_, he, rfl⟩, h _ he (Heap.get?_push_of_some _ (Heap.get?_push_size _ rfl)) fun b o x => Heap.get?_push_of_some _ (Heap.get?_push_of_some _ x)⟩
theorem meets_zip (b1 b2 : Bool) (l1 l2 : Addr) (xs ys : Array Value) :
    Meets (Builtin.«zip.__new__» ⟨[.type "zip", .ref l1, .ref l2], []⟩) (fun _ R s => SqH b1 s.heap l1 xs ∧ SqH b2 s.heap l2 ys ∧
      R (.ok (.ret (.ref ((((s.heap.push (itObj b1 l1)).push (itObj b2 l2)).push { cls := .type "tuple", data := .seq #[.ref s.heap.objs.size, .ref (s.heap.push (itObj b1 l1)).objs.size] }).push { cls := .type "tuple", data := .seq #[.none, .none] }).objs.size)))
        { s with heap := ((((s.heap.push (itObj b1 l1)).push (itObj b2 l2)).push { cls := .type "tuple", data := .seq #[.ref s.heap.objs.size, .ref (s.heap.push (itObj b1 l1)).objs.size] }).push { cls := .type "tuple", data := .seq #[.none, .none] }).push ({ cls := .type "zip", data := .fields #[.none, .bool false, .bool false, .ref ((s.heap.push (itObj b1 l1)).push (itObj b2 l2)).objs.size, .ref (((s.heap.push (itObj b1 l1)).push (itObj b2 l2)).push { cls := .type "tuple", data := .seq #[.ref s.heap.objs.size, .ref (s.heap.push (itObj b1 l1)).objs.size] }).objs.size] } : Obj) }) :=
  .of_wp fun prog w A R s h => by
    obtain ⟨hp, g, d, tk, os⟩ := s; obtain ⟨hl1, hl2, h⟩ := h
    have hsub := sub_zip
    have hL1 : SqH b1 (Shared.heap ⟨hp, g, d, tk, os⟩) l1 xs := hl1
    have hL2 : SqH b2 (Shared.heap ⟨hp.push (itObj b1 l1), g, d, tk, os⟩) l2 ys := SqH.push hl2 _
    wp_walk using pyIter_sq hL1, pyIter_sq hL2
    exact ⟨_, rfl, h⟩
theorem call_zip {b1 b2 : Bool} {l1 l2 : Addr} {xs ys : Array Value} {Q : Value → Shared → Prop} (hl1 : SqH b1 s.heap l1 xs) (hl2 : SqH b2 s.heap l2 ys)
    (h : ∀ h', IsZip h' (s.heap.objs.size + 4) (s.heap.objs.size + 2) (s.heap.objs.size + 3) .none → IsPair h' (s.heap.objs.size + 2) (.ref s.heap.objs.size) (.ref (s.heap.objs.size + 1)) →
      IsPair h' (s.heap.objs.size + 3) .none .none → h'.get? s.heap.objs.size = some (itObj b1 l1) → h'.get? (s.heap.objs.size + 1) = some (itObj b2 l2) → (∀ c o, s.heap.get? c = some o → h'.get? c = some o) → Q (.ref (s.heap.objs.size + 4)) { s with heap := h' }) :
    wpAny (model prog w) A (call (.type "zip") [.ref l1, .ref l2]) Q E s := by
  refine callType_new F.called_zip (by decide) (F.typeCall_zip_2 _ _) (F.newCall_zip_2 _ _) (fun obj => F.args_object_init_3 obj _ _) F.entry_zip_new (meets_zip b1 b2 l1 l2 xs ys) ⟨hl1, hl2, ?_⟩
  generalize e1 : s.heap.push (itObj b1 l1) = h1
  generalize e2 : h1.push (itObj b2 l2) = h2
  generalize e3 : h2.push { cls := .type "tuple", data := .seq #[.ref s.heap.objs.size, .ref h1.objs.size] } = h3
  generalize e4 : h3.push { cls := .type "tuple", data := .seq #[.none, .none] } = h4
  have z1 : h1.objs.size = s.heap.objs.size + 1 := by rw [← e1]; exact Heap.size_push ..
  have z2 : h2.objs.size = s.heap.objs.size + 2 := by rw [← e2, Heap.size_push, z1]
  have z3 : h3.objs.size = s.heap.objs.size + 3 := by rw [← e3, Heap.size_push, z2]
  have z4 : h4.objs.size = s.heap.objs.size + 4 := by rw [← e4, Heap.size_push, z3]
  have k1 : ∀ c o, s.heap.get? c = some o → h1.get? c = some o := fun c o x => by rw [← e1]; exact Heap.get?_push_of_some _ x
  have k2 : ∀ c o, h1.get? c = some o → h2.get? c = some o := fun c o x => by rw [← e2]; exact Heap.get?_push_of_some _ x
  have k3 : ∀ c o, h2.get? c = some o → h3.get? c = some o := fun c o x => by rw [← e3]; exact Heap.get?_push_of_some _ x
  have k4 : ∀ c o, h3.get? c = some o → h4.get? c = some o := fun c o x => by rw [← e4]; exact Heap.get?_push_of_some _ x
  have g1 : h1.get? s.heap.objs.size = some (itObj b1 l1) := by rw [← e1]; exact Heap.get?_push_size _ rfl
  have g2 : h2.get? h1.objs.size = some (itObj b2 l2) := by rw [← e2]; exact Heap.get?_push_size _ rfl
  have g3 : IsPair h3 h2.objs.size (.ref s.heap.objs.size) (.ref h1.objs.size) := by show h3.get? h2.objs.size = _; rw [← e3]; exact Heap.get?_push_size _ rfl
  have g4 : IsPair h4 h3.objs.size .none .none := by show h4.get? h3.objs.size = _; rw [← e4]; exact Heap.get?_push_size _ rfl
  show _ ∧ _
  rw [z2, z3, z4]
  rw [z1] at g2
  rw [z1, z2] at g3
  rw [z3] at g4
  have g5 : IsZip (h4.push { cls := .type "zip", data := .fields #[.none, .bool false, .bool false, .ref (s.heap.objs.size + 2), .ref (s.heap.objs.size + 3)] }) (s.heap.objs.size + 4) (s.heap.objs.size + 2) (s.heap.objs.size + 3) .none := by
    have := Heap.get?_push_size h4 (o := { cls := .type "zip", data := .fields #[.none, .bool false, .bool false, .ref (s.heap.objs.size + 2), .ref (s.heap.objs.size + 3)] }) rfl
    rw [z4] at this; exact this
  exact ⟨⟨_, g5, rfl⟩, h _ g5 (Heap.get?_push_of_some _ (k4 _ _ g3)) (Heap.get?_push_of_some _ g4) (Heap.get?_push_of_some _ (k4 _ _ (k3 _ _ (k2 _ _ g1)))) (Heap.get?_push_of_some _ (k4 _ _ (k3 _ _ g2))) fun c o x => Heap.get?_push_of_some _ (k4 _ _ (k3 _ _ (k2 _ _ (k1 _ _ x))))⟩
theorem pyIter_enum {e it : Addr} {i : Int} {old : Value} {Q : Value → Shared → Prop} (he : IsEnum s.heap e it i old) (h : Q (.ref e) s) : wpAny (model prog w) A (pyIter (.ref e)) Q E s := by
  have hT : s.TypeIs (.ref e) "enumerate" := ⟨_, he, rfl⟩
  refine wpAny_pyIter_slot hT F.slot_enumerate_iter (wpAny_call_entry F.slot_enumerate_iter hT F.entry_enumerate_iter ?_ (F.args_enumerate_iter_1 _))
  show wpAny _ _ (ret (.ref e)) _ _ s
  exact wpAny_pure ⟨_, rfl, "enumerate", _, hT, F.slot_enumerate_next.lookup, h⟩
end
end FL
set_option Elab.async false
set_option linter.all false
set_option maxRecDepth 100000
set_option maxHeartbeats 4000000
namespace FL
open PySem PySem.Spec PyProof.Rows L2
theorem walks_list {K : PySem.W.Frag} {Hf : Hp} {a : Addr} {xs : List V} {ds : List D} (qa : SqL K Hf a xs) (la : HasL K Hf ds xs) : Walks K Hf (Itl K a) ds := fun H2 Hf2 t2 sf2 i => by
  refine ⟨fun d hd => ?_, fun hle => ⟨xs, sf2.seq (t2.seq qa), by rw [la.length]; exact hle⟩⟩
  obtain ⟨v, e3, e4⟩ := la.get hd
  have sq : SqL K H2 a xs := sf2.seq (t2.seq qa)
  refine ⟨⟨xs, v, sq, e3⟩, fun x H3 hy => ?_⟩
  obtain ⟨rfl, hy⟩ := hy
  have := hy xs sq
  rw [e3] at this
  cases this
  exact ⟨Hf2, Grows.refl sf2, e4.mono t2⟩
theorem walks_tup {K : PySem.W.Frag} {Hf : Hp} {a : Addr} {xs : List V} {ds : List D} (qa : SqT K Hf a xs) (la : HasL K Hf ds xs) : Walks K Hf (Itt K a) ds := fun H2 Hf2 t2 sf2 i => by
  refine ⟨fun d hd => ?_, fun hle => ⟨xs, sameT sf2 (sameT t2 qa), by rw [la.length]; exact hle⟩⟩
  obtain ⟨v, e3, e4⟩ := la.get hd
  have sq : SqT K H2 a xs := sameT sf2 (sameT t2 qa)
  refine ⟨⟨xs, v, sq, e3⟩, fun x H3 hy => ?_⟩
  obtain ⟨rfl, hy⟩ := hy
  have := hy xs sq
  rw [e3] at this
  cases this
  exact ⟨Hf2, Grows.refl sf2, e4.mono t2⟩
theorem Grows.lay {H Hf : Hp} {p : Addr} {o : HO} (s : Same Hf H) (hp : H p = none) : Grows H Hf (upd H p o) (upd Hf p o) := by
  have hfp : Hf p = none := s.free hp
  refine ⟨same_upd hp, same_upd hfp, fun b u e => ?_, fun b u e => ?_⟩
  · by_cases hb : b = p
    · subst hb; rw [upd_same] at e ⊢; exact e
    · rw [upd_ne hb] at e ⊢; exact s b u e
  · by_cases hb : b = p
    · subst hb; exact .inr (.inl hp)
    · rw [upd_ne hb] at e; exact .inl e
def enumD (ds : List D) : List D := ds.zipIdx.map fun p => .tup [.int (p.2 : Int), p.1]
theorem enumD_get {ds : List D} {i : Nat} {d : D} (h : (enumD ds)[i]? = some d) : ∃ x, ds[i]? = some x ∧ d = .tup [.int i, x] := by
  unfold enumD at h
  rw [List.getElem?_map, List.getElem?_zipIdx] at h
  cases e : ds[i]? with
  | none => rw [e] at h; cases h
  | some x => rw [e] at h; simp at h; exact ⟨x, rfl, h.symm⟩
theorem enumD_length (ds : List D) : (enumD ds).length = ds.length := by simp [enumD]
theorem walks_enum {K : PySem.W.Frag} {Hf : Hp} {J : It} {ds : List D} (wk : Walks K Hf J ds) : Walks K Hf (ItE J) (enumD ds) := fun H2 Hf2 t2 sf2 i => by
  obtain ⟨w1, w2⟩ := wk H2 Hf2 t2 sf2 i
  refine ⟨fun d hd => ?_, fun hle => w2 (by rw [enumD_length] at hle; exact hle)⟩
  obtain ⟨x, hx, rfl⟩ := enumD_get hd
  obtain ⟨go, yl⟩ := w1 x hx
  refine ⟨go, fun v H3 hy => ?_⟩
  obtain ⟨y, H1, p, hy, hp, rfl, rfl⟩ := hy
  obtain ⟨Hf1, gr, hh⟩ := yl y H1 hy
  have g2 := Grows.lay (o := .tup [.int i, y]) gr.fh hp
  exact ⟨_, gr.trans g2, Has.tup_iff.mpr ⟨p, _, rfl, SqT.of upd_same, .cons (Has.int_iff.mpr rfl) (.cons (hh.mono g2.f) .nil)⟩⟩
def zipD (xs ys : List D) : List D := (xs.zip ys).map fun p => .tup [p.1, p.2]
theorem zipD_get {xs ys : List D} {i : Nat} {d : D} (h : (zipD xs ys)[i]? = some d) : ∃ x y, xs[i]? = some x ∧ ys[i]? = some y ∧ d = .tup [x, y] := by
  unfold zipD at h
  rw [List.getElem?_map] at h
  cases e : (xs.zip ys)[i]? with
  | none => rw [e] at h; cases h
  | some p =>
    rw [e] at h
    simp at h
    obtain ⟨h1, h2⟩ := List.getElem?_zip_eq_some.mp e
    exact ⟨p.1, p.2, h1, h2, h.symm⟩
theorem zipD_length (xs ys : List D) : (zipD xs ys).length = min xs.length ys.length := by simp [zipD]
theorem walks_zip {K : PySem.W.Frag} {Hf : Hp} {J1 J2 : It} {xs ys : List D} (hq : ∀ i H x H', J1.yld i H x H' → H' = H) (w1 : Walks K Hf J1 xs) (w2 : Walks K Hf J2 ys) : Walks K Hf (ItZ J1 J2) (zipD xs ys) := fun H2 Hf2 t2 sf2 i => by
  obtain ⟨a1, a2⟩ := w1 H2 Hf2 t2 sf2 i
  obtain ⟨b1, b2⟩ := w2 H2 Hf2 t2 sf2 i
  refine ⟨fun d hd => ?_, fun hle => ?_⟩
  · obtain ⟨x, y, hx, hy, rfl⟩ := zipD_get hd
    obtain ⟨go1, yl1⟩ := a1 x hx
    obtain ⟨go2, yl2⟩ := b1 y hy
    refine ⟨⟨go1, fun v H1 q => by rw [hq _ _ _ _ q]; exact go2⟩, fun v H3 q => ?_⟩
    obtain ⟨y1, y2, H1, H2', p, q1, q2, hp, rfl, rfl⟩ := q
    have e1 := hq _ _ _ _ q1
    subst e1
    obtain ⟨Hf1, gr1, h1⟩ := yl1 y1 _ q1
    obtain ⟨Hf3, gr3, h3⟩ := (w2 H1 Hf1 (t2.trans gr1.f) gr1.fh i).1 y hy |>.2 y2 _ q2
    have g2 := Grows.lay (o := .tup [y1, y2]) gr3.fh hp
    exact ⟨_, (gr1.trans gr3).trans g2, Has.tup_iff.mpr ⟨p, _, rfl, SqT.of upd_same, .cons ((h1.mono gr3.f).mono g2.f) (.cons (h3.mono g2.f) .nil)⟩⟩
  · rw [zipD_length] at hle
    by_cases h : xs.length ≤ i
    · exact .inl (a2 h)
    · have hx : xs[i]? = some xs[i] := List.getElem?_eq_getElem (by omega)
      exact .inr ⟨(a1 _ hx).1, fun v H1 q => ⟨hq _ _ _ _ q, b2 (by omega)⟩⟩
section
variable {X : Cx} {e e1 e2 : Expr} {f f1 f2 : FE} {pos : Pos} {elts : List Expr} {kx : Nat} {tp : Pos}
theorem fp_new {pins : List (Addr × Obj)} {σ : St} {H : Hp} {s : Shared} (I : Inv X pins σ H s) {b : Addr} (hb : s.heap.objs.size ≤ b) : FpOk X pins H b := I.fpOk hb (I.hok.fresh hb)
def seqOf : D → Option (List D)
  | .lst ds => some ds
  | .tup ds => some ds
  | _ => none
def seqItems (f : FE) : FA := fun ρ => (f ρ).bind seqOf
def itemsE (f : FE) : FA := fun ρ => (seqItems f ρ).bind fun ds => some (enumD ds)
def itemsZ (f g : FE) : FA := fun ρ => (seqItems f ρ).bind fun xs => (seqItems g ρ).bind fun ys => some (zipD xs ys)
theorem src_of {pins : List (Addr × Obj)} {σ : St} {H Hf : Hp} {s : Shared} {d : D} {ds : List D} {v : V} {u : Value} (I : Inv X pins σ H s) (sf : Same Hf H) (h : Has X.K Hf d v) (hd : seqOf d = some ds) (r : RelV v u) :
    ∃ (b : Bool) (a : Addr) (its : Array Value) (J : It), u = .ref a ∧ SqH b s.heap a its ∧ Walks X.K Hf J ds ∧ (∀ i H x H', J.yld i H x H' → H' = H) ∧
      ∀ it, ∃ tn : Nat → Heap → Prop, Draw X.prog X.w X.K J [it] it tn ∧ ∀ h : Heap, h.get? it = some (itObj b a) → tn 0 h := by
  cases d with
  | lst ds' =>
    cases hd
    obtain ⟨a, xs, rfl, qa, la⟩ := Has.lst_iff.mp h
    cases r
    obtain ⟨its, _, p, _⟩ := I.list (sf.seq qa)
    exact ⟨true, a, _, _, rfl, p.isList, walks_list qa la, fun _ _ _ _ q => q.1, fun it => ⟨_, draw_list a it, fun h e => ⟨_, e, rfl, rfl⟩⟩⟩
  | tup ds' =>
    cases hd
    obtain ⟨a, xs, rfl, qa, la⟩ := Has.tup_iff.mp h
    cases r
    obtain ⟨its, _, p, _⟩ := I.tuple (sameT sf qa)
    exact ⟨false, a, _, _, rfl, p, walks_tup qa la, fun _ _ _ _ q => q.1, fun it => ⟨_, draw_tuple a it, fun h e => ⟨_, e, rfl, rfl⟩⟩⟩
  | _ => cases hd
theorem di_enum {p : Pos} (hg : Gl X "enumerate") (hm : X.mg "enumerate" = none) (he : DE X e f) (hs : starEach [e] X.env = [(false, eval e X.env)] := by rfl) : DI X (.Tuple elts kx tp) (.Call (.Name "enumerate" p) [e] [] pos) (itemsE f) := by
  intro pins s σ H R I h
  obtain ⟨H₀, Hf₀, ρ, Hf, ds', R0, q, k⟩ := h
  obtain ⟨ds, q1, q2⟩ := bindA_some q
  cases q2
  obtain ⟨d, q3, q4⟩ := bindV_some q1
  refine Call_ (ld_blt I hg hm boot_enumerate (PyProof.Rows.callWith_type1 (thn ((pa_cons he pa_nil hs) pos pins s σ H (fun vs H1 => ∃ v Hf1, vs = [v] ∧ Rep X.K H₀ Hf₀ σ ρ H1 Hf1 ∧ Same H H1 ∧ Same Hf Hf1 ∧ Has X.K Hf1 d v) I ⟨H₀, Hf₀, ρ, Hf, d, R0, q3, fun v H1 Hf1 R1 s1 t1 h1 => ⟨v, Hf1, rfl, R1, s1, t1, h1⟩⟩) fun us s1 ⟨vs, H1, I1, r1, q1⟩ => ?_) hs rfl))
  obtain ⟨v, Hf1, rfl, R1, s1', t1, h1⟩ := q1
  cases r1 with
  | cons r rr =>
    cases rr
    obtain ⟨b, a, its, J, rfl, sq, wk, _, dr⟩ := src_of I1 R1.sf h1 q4 r
    refine call_enum sq fun h' he' hi' hk => ?_
    have I2 : Inv X pins σ H1 { s1 with heap := h' } := I1.kept (t' := s1.toks) hk
    obtain ⟨tn, D, st⟩ := dr s1.heap.objs.size
    refine pyIter_enum he' ⟨s1.heap.objs.size + 1, [s1.heap.objs.size + 1, s1.heap.objs.size], _, _, H1, rfl, I2, turn_enum (elts := elts) (kx := kx) (tp := tp) (e := s1.heap.objs.size + 1) D (fun b hb => by
      have e : b = s1.heap.objs.size := by simpa using hb
      rw [e]; exact Nat.ne_of_lt (Nat.lt_succ_self _)), ⟨st _ hi', _, he'⟩, fun b hb => ?_, k _ _ _ R1 s1' t1 (walks_enum wk)⟩
    rcases List.mem_cons.mp hb with rfl | hb
    · exact fp_new I1 (Nat.le_succ _)
    · have e : b = s1.heap.objs.size := by simpa using hb
      rw [e]; exact fp_new I1 (Nat.le_refl _)
theorem di_zip {p : Pos} (hg : Gl X "zip") (hm : X.mg "zip" = none) (h1 : DE X e1 f1) (h2 : DE X e2 f2) (hs : starEach [e1, e2] X.env = [(false, eval e1 X.env), (false, eval e2 X.env)] := by rfl) (hs2 : starEach [e2] X.env = [(false, eval e2 X.env)] := by rfl) :
    DI X (.Tuple elts kx tp) (.Call (.Name "zip" p) [e1, e2] [] pos) (itemsZ f1 f2) := by
  intro pins s σ H R I h
  obtain ⟨H₀, Hf₀, ρ, Hf, ds', R0, q, k⟩ := h
  obtain ⟨xs, q1, q2⟩ := bindA_some q
  obtain ⟨ys, q5, q6⟩ := bindA_some q2
  cases q6
  obtain ⟨d1, q3, q4⟩ := bindV_some q1
  obtain ⟨d2, q7, q8⟩ := bindV_some q5
  refine Call_ (ld_blt I hg hm boot_zip (PyProof.Rows.callWith_type1 (thn ((pa_cons h1 (pa_cons h2 pa_nil hs2) (by rw [hs, hs2])) pos pins s σ H (fun vs H1 => ∃ v v' Hf1, vs = [v, v'] ∧ Rep X.K H₀ Hf₀ σ ρ H1 Hf1 ∧ Same H H1 ∧ Same Hf Hf1 ∧ Has X.K Hf1 d1 v ∧ Has X.K Hf1 d2 v') I
    ⟨H₀, Hf₀, ρ, Hf, d1, R0, q3, fun v H1 Hf1 R1 s1 t1 h1 => ⟨H₀, Hf₀, ρ, Hf1, d2, R1, q7, fun v' H2 Hf2 R2 s2 t2 h2 => ⟨v, v', Hf2, rfl, R2, s1.trans s2, t1.trans t2, h1.mono t2, h2⟩⟩⟩) fun us s1 ⟨vs, H1, I1, r1, q1⟩ => ?_) (by rw [hs, hs2]) (by rw [hs2]; rfl)))
  obtain ⟨v, v', Hf1, rfl, R1, s1', t1, hv, hv'⟩ := q1
  cases r1 with
  | cons r rr =>
    cases rr with
    | cons r' rr =>
      cases rr
      obtain ⟨b, a, its, J, rfl, sq, wk, hq, dr⟩ := src_of I1 R1.sf hv q4 r
      obtain ⟨b', a', its', J', rfl, sq', wk', hq', dr'⟩ := src_of I1 R1.sf hv' q8 r'
      refine call_zip sq sq' fun h' hz hTI hTO hi hi' hk => ?_
      have I2 : Inv X pins σ H1 { s1 with heap := h' } := I1.kept (t' := s1.toks) hk
      obtain ⟨tn, D, st⟩ := dr s1.heap.objs.size
      obtain ⟨tn', D', st'⟩ := dr' (s1.heap.objs.size + 1)
      have mem : ∀ b : Addr, b ∈ [s1.heap.objs.size] ++ [s1.heap.objs.size + 1] → b = s1.heap.objs.size ∨ b = s1.heap.objs.size + 1 := fun b hb => by simpa using hb
      have Z : ZApart (s1.heap.objs.size + 4) (s1.heap.objs.size + 2) (s1.heap.objs.size + 3) [s1.heap.objs.size] [s1.heap.objs.size + 1] :=
        ⟨by show (_ : Nat) ≠ _; omega, by show (_ : Nat) ≠ _; omega, by show (_ : Nat) ≠ _; omega, fun b hb => by rcases mem b hb with e | e <;> (rw [e]; show (_ : Nat) ≠ _; omega), fun b hb => by rcases mem b hb with e | e <;> (rw [e]; show (_ : Nat) ≠ _; omega),
          fun b hb => by rcases mem b hb with e | e <;> (rw [e]; show (_ : Nat) ≠ _; omega), fun b hb hb' => by
            have e1 : b = s1.heap.objs.size := by simpa using hb
            have e2 : b = s1.heap.objs.size + 1 := by simpa using hb'
            rw [e1] at e2
            exact absurd e2 (Nat.ne_of_lt (Nat.lt_succ_self _))⟩
      refine wpAny_pyIter_zip hz ⟨_, _, _, _, H1, rfl, I2, turn_zip (elts := elts) (kx := kx) (tp := tp) D D' Z, ⟨st _ hi, st' _ hi', hz, hTI, _, _, hTO⟩, fun b hb => ?_, k _ _ _ R1 s1' t1 (walks_zip hq wk wk')⟩
      have hle : s1.heap.objs.size ≤ b := by
        have : b = s1.heap.objs.size + 4 ∨ b = s1.heap.objs.size + 2 ∨ b = s1.heap.objs.size + 3 ∨ b = s1.heap.objs.size ∨ b = s1.heap.objs.size + 1 := by simpa using hb
        rcases this with e | e | e | e | e <;> (rw [e]; show (_ : Nat) ≤ _; omega)
      exact fp_new I1 hle
end
end FL
set_option Elab.async false
set_option linter.all false
set_option maxRecDepth 100000
set_option maxHeartbeats 4000000
namespace FL
open PySem PySem.Spec PyProof.Rows L2
section
variable {prog : Program} {w : World} {A : Around} {E : Value → Shared → Prop} {s : Shared}
theorem getItem_tuple_all {t sl : Addr} {items : Array Value} {vl vu : Value} {lo hi : Option Int} {Q : Value → Shared → Prop} (ht : IsTup s.heap t items) (hs : s.heap.IsSliceOf sl vl vu .none) (pl : IsPart vl lo) (pu : IsPart vu hi)
    (hw : HT.sIx items.size 0 lo = 0 ∧ HT.sIx items.size items.size hi = items.size) (h : Q (.ref t) s) : wpAny (model prog w) A (getItem (.ref t) (.ref sl)) Q E s := by
  obtain ⟨os, hos, hcs, hds⟩ := id hs
  have hTs : s.TypeIs (.ref sl) "slice" := ⟨os, hos, hcs⟩
  unfold getItem
  try with_reducible refine wpAny_holding ?_
  first | refine wpAny_bind (wpAny_pure ?_) | skip
  refine wpAny_bind (wpAny_sequenceKey ht.typeIs (by decide) ?_)
  refine wpAny_bind (wpAny_callSpecial?_slot (name := Str.ofString "__getitem__") ht.typeIs PyProof.Rows.slot_tuple_getitem
    (wpAny_call_entry PyProof.Rows.slot_tuple_getitem ht.typeIs entry_tuple_getitem ?_ (args_tuple_getitem _ _)))
  show wpAny _ _ (Builtin.Tuple.tupleItemsOf (.ref t) >>= _) _ _ s
  refine wpAny_bind (tupleItemsOf_ ht ?_)
  refine wpAny_bind (wpAny_typeOf hTs ?_)
  rw [if_pos (by decide)]
  refine wpAny_bind (HT.sliceApplied_gen hs pl pu ?_)
  rw [hw.1, hw.2]
  show wpAny _ _ (if (((0 : Nat) : Int) == 0 && (1 : Int) == 1 && (items.size - 0) == items.size) = true then _ else _) _ _ s
  rw [if_pos (by simp)]
  show wpAny _ _ (Builtin.Tuple.tupleIsExact (.ref t) >>= _) _ _ s
  unfold Builtin.Tuple.tupleIsExact
  refine wpAny_bind (wpAny_bind (wpAny_typeOf ht.typeIs (wpAny_pure ?_)))
  rw [if_pos (by decide)]
  refine wpAny_bind (wpAny_rule ?_)
  exact wpAny_pure ⟨_, rfl, wpAny_pure h⟩
open PySem.AutoSeq1 (wpAny_loadPart') in
theorem tuple_addW0 (l b : Addr) (items2 : Array Value) (n n2 : Nat) (dd dd2 : Option Addr) (sl sl2 : Array (Option Value)) :
    Meets (Builtin.«tuple.__add__» ⟨[.ref l, .ref b], []⟩) (fun _ R s => s.heap.get? l = some { cls := .type "tuple", dict := dd, data := .seq #[] n, slots := sl } ∧ s.heap.get? b = some { cls := .type "tuple", dict := dd2, data := .seq items2 n2, slots := sl2 } ∧ R (.ok (.ret (.ref b))) s) :=
  .of_wp fun prog w A R s h => by
    obtain ⟨hp, g, d, tk, os⟩ := s; obtain ⟨hl, hb, h⟩ := h
    have f2 := AutoSeq1.sub_tuple_tuple
    wp_walk using wpAny_loadPart' hl, wpAny_loadPart' hb
    exact ⟨_, rfl, h⟩
theorem cat_tup0 {t b : Addr} {ws : List Value} {Q : Value → Shared → Prop} (ht : IsTup s.heap t #[]) (hb : IsTup s.heap b ws.toArray) (h : Q (.ref b) s) : wpAny (model prog w) A (binaryOp .Add (.ref t) (.ref b)) Q E s := by
  obtain ⟨⟨cls, dd, data, sl⟩, ho, hc, n, hd⟩ := id ht
  obtain ⟨⟨cls2, dd2, data2, sl2⟩, ho2, hc2, n2, hd2⟩ := id hb
  simp only at hc hd hc2 hd2
  subst hc hd hc2 hd2
  exact concat_meets ⟨_, ho, rfl⟩ ⟨_, ho2, rfl⟩ noFill_tuple_add seq_tuple_add PySem.F.slot_tuple_add PySem.F.entry_tuple_add (PySem.F.args_tuple_add_2 _ _) (tuple_addW0 t b ws.toArray n n2 dd dd2 sl sl2) ⟨ho, ho2, h⟩
end
end FL
set_option Elab.async false
set_option linter.all false
set_option maxRecDepth 100000
set_option maxHeartbeats 4000000
namespace FL
open PySem PySem.Spec PyProof.Rows L2
section
variable {X : Cx}
def rCatTG (K : PySem.W.Frag) : R2 := fun x y H Q => ∃ a b xs ys, x = .ref a ∧ y = .ref b ∧ SqT K H a xs ∧ SqT K H b ys ∧ xs.length + ys.length ≤ sizeLine ∧
  (xs = [] → Q (.ref b) H) ∧ (xs ≠ [] → ys = [] → Q (.ref a) H) ∧ (xs ≠ [] → ys ≠ [] → ∀ p, H p = none → Q (.ref p) (upd H p (.tup (xs ++ ys))))
theorem op_catTG : OpR X (binaryOp .Add) (rCatTG X.K) := by
  intro pins s σ H x y v u Q I rx ry h
  obtain ⟨a, b, xs, ys, rfl, rfl, ha, hb, hz, q0, q1, q2⟩ := h
  by_cases hx : xs = []
  · subst hx
    cases rx
    cases ry
    obtain ⟨its, r1, p1, _⟩ := I.tuple ha
    obtain ⟨its2, r2, p2, _⟩ := I.tuple hb
    cases r1
    exact cat_tup0 p1 p2 ⟨.ref b, H, I, rfl, q0 rfl⟩
  · exact op_catT pins s σ H _ _ v u Q I rx ry ⟨a, b, xs, ys, rfl, rfl, ha, hb, hx, hz, q1 hx, q2 hx⟩
def rCatLG (K : PySem.W.Frag) : R2 := fun x y H Q => ∃ a b xs ys, x = .ref a ∧ y = .ref b ∧ SqL K H a xs ∧ SqL K H b ys ∧ xs.length + ys.length ≤ sizeLine ∧ ∀ p, H p = none → Q (.ref p) (upd H p (.lst (xs ++ ys)))
theorem op_catLG : OpR X (binaryOp .Add) (rCatLG X.K) := by
  intro pins s σ H x y v u Q I rx ry h
  obtain ⟨a, b, xs, ys, rfl, rfl, ha, hb, hz, q⟩ := h
  cases rx
  cases ry
  obtain ⟨its, r1, p1, _⟩ := I.list ha
  obtain ⟨its2, r2, p2, _⟩ := I.list hb
  obtain ⟨⟨cls, dd, data, sl⟩, ho, hc, n, hd⟩ := id p1.isList
  obtain ⟨⟨cls2, dd2, data2, sl2⟩, ho2, hc2, n2, hd2⟩ := id p2.isList
  simp only at hc hd hc2 hd2
  subst hc hd hc2 hd2
  have e : its.toArray ++ its2.toArray = (its ++ its2).toArray := by simp
  have hsz : its.toArray.size + its2.toArray.size ≤ sizeLine := by
    rw [List.size_toArray, List.size_toArray, ← r1.length, ← r2.length]; exact hz
  refine concat_meets ⟨_, ho, rfl⟩ ⟨_, ho2, rfl⟩ noFill_list_add seq_list_add PySem.F.slot_list_add PySem.F.entry_list_add (PySem.F.args_list_add_2 _ _) (list_addW a b its.toArray its2.toArray n n2 dd dd2 sl sl2 hsz) ⟨ho, ho2, ?_⟩
  rw [e]
  exact ⟨.ref _, _, I.lnew (t' := s.toks) (r1.append r2) (by rw [List.length_append]; exact hz), rfl, q _ I.fresh⟩
def rAddX (K : PySem.W.Frag) : R2 := fun x y H Q => rI0 (fun i j => .int (i + j)) x y H Q ∨ (∃ i j, x = .str i ∧ y = .str j ∧ i.length + j.length ≤ sizeLine ∧ Q (.str (i ++ j)) H) ∨ rCatTG K x y H Q ∨ rCatLG K x y H Q
theorem op_addX : OpR X (binaryOp .Add) (rAddX X.K) := op_add.or (op_add_str.or (op_catTG.or op_catLG))
def addX : D → D → Option D
  | .int i, .int j => some (.int (i + j))
  | .str x, .str y => if x.length + y.length ≤ sizeLine then some (.str (x ++ y)) else none
  | .tup xs, .tup ys => if xs.length + ys.length ≤ sizeLine then some (.tup (xs ++ ys)) else none
  | .lst xs, .lst ys => if xs.length + ys.length ≤ sizeLine then some (.lst (xs ++ ys)) else none
  | _, _ => none
theorem HasL.nil_of {K : PySem.W.Frag} {H : Hp} {ds : List D} {xs : List V} (h : HasL K H ds xs) : xs = [] ↔ ds = [] := by
  have := h.length
  constructor
  · intro e; subst e; exact List.eq_nil_of_length_eq_zero this.symm
  · intro e; subst e; exact List.eq_nil_of_length_eq_zero this
theorem HasR.tupF {K : PySem.W.Frag} {Hf : Hp} {σ : St} {ρ : Rho} {ds : List D} {v : V} (h : HasR K Hf σ ρ (.tup ds) v) : Has K Hf (.tup ds) v := by
  rcases h with h | ⟨_, _, e, _⟩
  · exact h
  · cases e
theorem opD_addX : OpD X (rAddX X.K) addX := by
  intro σ ρ H₀ Hf₀ H Hf x y dx dy d Q R hx hy hφ k
  unfold addX at hφ
  split at hφ
  · cases hφ
    exact .inl ⟨_, _, hx.int, hy.int, k _ _ _ R sameR sameR (Has.int_iff.mpr rfl)⟩
  · split at hφ
    · cases hφ
      exact .inr (.inl ⟨_, _, hx.str, hy.str, by assumption, k _ _ _ R sameR sameR (Has.str_iff.mpr rfl)⟩)
    · cases hφ
  · split at hφ
    · cases hφ
      rename_i xs ys hz
      obtain ⟨a, vs, rfl, qa, la⟩ := hx.tup R
      obtain ⟨b, ws, rfl, qb, lb⟩ := hy.tup R
      refine .inr (.inr (.inl ⟨a, b, vs, ws, rfl, rfl, qa, qb, by rw [la.length, lb.length]; exact hz, fun e => ?_, fun _ e => ?_, fun _ _ p hp => ?_⟩))
      · cases la.nil_of.mp e
        exact k _ _ _ R sameR sameR (by rw [List.nil_append]; exact hy.tupF)
      · cases lb.nil_of.mp e
        exact k _ _ _ R sameR sameR (by rw [List.append_nil]; exact hx.tupF)
      · have sm := same_upd (o := .tup (vs ++ ws)) (R.sf.free hp)
        exact k _ _ _ (R.lay hp) (same_upd hp) sm (Has.tup_iff.mpr ⟨p, _, rfl, SqT.of upd_same, (la.append lb).mono sm⟩)
    · cases hφ
  · split at hφ
    · cases hφ
      rename_i xs ys hz
      obtain ⟨a, vs, rfl, qa, la⟩ := hx.lst R
      obtain ⟨b, ws, rfl, qb, lb⟩ := hy.lst R
      refine .inr (.inr (.inr ⟨a, b, vs, ws, rfl, rfl, qa, qb, by rw [la.length, lb.length]; exact hz, fun p hp => ?_⟩))
      have sm := same_upd (o := .lst (vs ++ ws)) (R.sf.free hp)
      exact k _ _ _ (R.lay hp) (same_upd hp) sm (Has.lst_iff.mpr ⟨p, _, rfl, SqL.of upd_same, (la.append lb).mono sm⟩)
    · cases hφ
  · cases hφ
variable {a b c e : Expr} {f g h : FE} {pos p2 : Pos}
theorem d_addX (ha : DR X a f) (hb : DR X b g) : DE X (.BinOp a .Add b pos) (bind2 addX f g) := d_op op_addX opD_addX ha hb
abbrev FP := Rho → Option (Option Int)
def noP : FP := fun _ => some none
def exP (f : FE) : FP := fun ρ => (f ρ).bind fun | .int i => some (some i) | _ => none
def tP (K : PySem.W.Frag) (f : FP) : TO := fun σ H Q => ∃ H₀ Hf₀ ρ Hf o, Rep K H₀ Hf₀ σ ρ H Hf ∧ f ρ = some o ∧ ∀ H' Hf', Rep K H₀ Hf₀ σ ρ H' Hf' → Same H H' → Same Hf Hf' → Q o H'
def DP (X : Cx) (e : Option Expr) (f : FP) : Prop := PO X e (tP X.K f)
theorem po_imp {e : Option Expr} {t t' : TO} (h : PO X e t) (i : ∀ σ H Q, t' σ H Q → t σ H Q) : PO X e t' := fun pins s σ H Q I hw => h pins s σ H Q I (i _ _ _ hw)
theorem dp_no : DP X none noP := po_imp po_none fun σ H Q ⟨H₀, Hf₀, ρ, Hf, d, R, q, k⟩ => by cases q; exact k _ _ R sameR sameR
theorem dp_ex (h : DR X e f) : DP X (some e) (exP f) := po_imp (po_some h) fun σ H Q ⟨H₀, Hf₀, ρ, Hf, d, R, q, k⟩ => by
  obtain ⟨x, e1, e2⟩ := bindV_some q
  cases x <;> try cases e2
  exact ⟨H₀, Hf₀, ρ, Hf, _, R, e1, fun v H1 Hf1 R1 s1 t1 h1 => ⟨_, h1.int, k _ _ R1 s1 t1⟩⟩
def cutL {α : Type} (xs : List α) (lo hi : Option Int) : List α := (xs.drop (HT.sIx xs.length 0 lo)).take (HT.sIx xs.length xs.length hi - HT.sIx xs.length 0 lo)
theorem HasL.cut {K : PySem.W.Frag} {H : Hp} {ds : List D} {xs : List V} (h : HasL K H ds xs) (lo hi : Option Int) : HasL K H (cutL ds lo hi) (cutV xs lo hi) := by
  unfold cutL cutV
  rw [h.length]
  exact (h.drop _).take _
def rSlTG (K : PySem.W.Frag) : V → Option Int → Option Int → Hp → VK → Prop := fun x lo hi H Q => ∃ a xs, x = .ref a ∧ SqT K H a xs ∧
  ((HT.sIx xs.length 0 lo = 0 ∧ HT.sIx xs.length xs.length hi = xs.length) → Q (.ref a) H) ∧ (¬ (HT.sIx xs.length 0 lo = 0 ∧ HT.sIx xs.length xs.length hi = xs.length) → ∀ p, H p = none → Q (.ref p) (upd H p (.tup (cutV xs lo hi))))
theorem sl_tupG : SlR X (rSlTG X.K) := by
  intro pins s σ H x v vl vu lo hi sl Q I rx hs pl pu h
  obtain ⟨a, xs, rfl, hx, q1, q2⟩ := h
  by_cases hw : HT.sIx xs.length 0 lo = 0 ∧ HT.sIx xs.length xs.length hi = xs.length
  · cases rx
    obtain ⟨its, r, ht, hz⟩ := I.tuple hx
    have hlen : its.toArray.size = xs.length := by rw [List.size_toArray]; exact r.length.symm
    refine ⟨"tuple", _, PyProof.Rows.slot_tuple_getitem.lookup, ht.typeIs, ?_⟩
    exact getItem_tuple_all ht hs pl pu (by rw [hlen]; exact hw) ⟨.ref a, H, I, rfl, q1 hw⟩
  · exact sl_tup pins s σ H _ v vl vu lo hi sl Q I rx hs pl pu ⟨a, xs, rfl, hx, hw, q2 hw⟩
def sliceF (f : FE) (l u : FP) : FE := fun ρ => (f ρ).bind fun x => (l ρ).bind fun lo => (u ρ).bind fun hi => match x with
  | .tup ds => some (.tup (cutL ds lo hi))
  | .lst ds => some (.lst (cutL ds lo hi))
  | _ => none
theorem cut_whole {ds : List D} {lo hi : Option Int} (h : HT.sIx ds.length 0 lo = 0 ∧ HT.sIx ds.length ds.length hi = ds.length) : cutL ds lo hi = ds := by
  unfold cutL
  rw [h.1, h.2]
  simp
theorem d_slice {lo hi : Option Expr} {l u : FP} (he : DR X e f) (hl : DP X lo l) (hu : DP X hi u) : DE X (.Subscript e (.Slice lo hi none p2) pos) (sliceF f l u) :=
  pe_imp (pe_slice (sl_tupG.or sl_list) he hl hu) fun σ H Q ⟨H₀, Hf₀, ρ, Hf, d, R, q, k⟩ => by
    obtain ⟨x, e1, e2⟩ := bindV_some q
    cases e3 : l ρ with
    | none => rw [e3] at e2; cases e2
    | some lo =>
      rw [e3] at e2
      cases e4 : u ρ with
      | none => rw [e4] at e2; cases e2
      | some hi =>
        rw [e4] at e2
        simp only [Option.bind_some] at e2
        refine ⟨H₀, Hf₀, ρ, Hf, x, R, e1, fun v H1 Hf1 R1 s1 t1 h1 => ⟨H₀, Hf₀, ρ, Hf1, lo, R1, e3, fun H2 Hf2 R2 s2 t2 => ⟨H₀, Hf₀, ρ, Hf2, hi, R2, e4, fun H3 Hf3 R3 s3 t3 => ?_⟩⟩⟩
        have h3 := (h1.mono t2).mono t3
        have ss := (s1.trans s2).trans s3
        have tt := (t1.trans t2).trans t3
        split at e2
        · cases e2
          obtain ⟨a, xs, rfl, qa, la⟩ := h3.tup R3
          refine .inl ⟨a, xs, rfl, qa, fun hw => ?_, fun hw p hp => ?_⟩
          · rw [la.length] at hw
            exact k _ _ _ R3 ss tt (by rw [cut_whole hw]; exact h3.tupF)
          · have sm := same_upd (o := .tup (cutV xs lo hi)) (R3.sf.free hp)
            exact k _ _ _ (R3.lay hp) (ss.trans (same_upd hp)) (tt.trans sm) (Has.tup_iff.mpr ⟨p, _, rfl, SqT.of upd_same, (la.cut lo hi).mono sm⟩)
        · cases e2
          obtain ⟨a, xs, rfl, qa, la⟩ := h3.lst R3
          refine .inr ⟨a, xs, rfl, qa, fun p hp => ?_⟩
          have sm := same_upd (o := .lst (cutV xs lo hi)) (R3.sf.free hp)
          exact k _ _ _ (R3.lay hp) (ss.trans (same_upd hp)) (tt.trans sm) (Has.lst_iff.mpr ⟨p, _, rfl, SqL.of upd_same, (la.cut lo hi).mono sm⟩)
        · cases e2
section
variable {X : Cx} {a b c e st : Expr} {f g h fs : FE} {pos p2 : Pos}
theorem bind2_some {α : Type} {f g : FE} {k : D → D → Option α} {ρ : Rho} {r : α} (h : ((f ρ).bind fun x => (g ρ).bind fun y => k x y) = some r) : ∃ x y, f ρ = some x ∧ g ρ = some y ∧ k x y = some r := by
  obtain ⟨x, e1, e2⟩ := bindV_some h
  obtain ⟨y, e3, e4⟩ := bindV_some e2
  exact ⟨x, y, e1, e3, e4⟩
def tupleD : List D → Option D
  | [.lst ds] => some (.tup ds)
  | [.tup ds] => some (.tup ds)
  | _ => none
theorem fnR_tuple : FnR X (fun xs H Q => ∃ p ys, xs = [.ref p] ∧ ((SqL X.K H p ys ∧ ∀ l, H l = none → Q (.ref l) (upd H l (.tup ys))) ∨ (SqT X.K H p ys ∧ Q (.ref p) H))) tupleD := by
  intro σ ρ H₀ Hf₀ H Hf xs ds d Q R hx hφ k
  unfold tupleD at hφ
  split at hφ
  · cases hφ
    obtain ⟨v, rfl, hv⟩ := hx.one
    obtain ⟨a, ys, rfl, q, l⟩ := hv.lst R
    refine ⟨a, ys, rfl, .inl ⟨q, fun p hp => ?_⟩⟩
    have sm := same_upd (o := .tup ys) (R.sf.free hp)
    exact k _ _ _ (R.lay hp) (same_upd hp) sm (Has.tup_iff.mpr ⟨p, _, rfl, SqT.of upd_same, l.mono sm⟩)
  · cases hφ
    obtain ⟨v, rfl, hv⟩ := hx.one
    obtain ⟨a, ys, rfl, q, l⟩ := hv.tup R
    exact ⟨a, ys, rfl, .inr ⟨q, k _ _ _ R sameR sameR hv.tupF⟩⟩
  · cases hφ
def listN (fa : FA) : FA := fun ρ => (fa ρ).bind fun l => match l with
  | [.lst ds] => some ds
  | [.tup ds] => some ds
  | _ => none
theorem dn_list {es : List Expr} {fa : FA} {p : Pos} (hg : Gl X "list") (hm : X.mg "list" = none) (ha : DAR X (e :: es) fa)
    (he : starEach (e :: es) X.env = (false, eval e X.env) :: starEach es X.env := by rfl) (hpl : (backTo pos (starEach es X.env)).any (·.1) = false := by rfl) : DN X (.Call (.Name "list" p) (e :: es) [] pos) (listN fa) :=
  pe_imp (pe_callTy (T := "list") call_list_of hg hm (by rfl) ha (by decide) (by decide) he hpl) fun σ H Q ⟨H₀, Hf₀, ρ, Hf, d, R, q, k⟩ => by
    obtain ⟨l, e1, e2⟩ := bindA_some q
    refine ⟨H₀, Hf₀, ρ, Hf, l, R, e1, fun vs H1 Hf1 R1 s1 t1 h1 => ?_⟩
    split at e2
    · cases e2
      obtain ⟨v, rfl, hv⟩ := HasRL.one h1
      obtain ⟨a, ys, rfl, q, l⟩ := hv.lst R1
      exact ⟨a, ys, rfl, .inl q, fun p hp => k _ _ _ _ (R1.layN hp) (s1.trans (same_upd hp)) t1 l upd_same (R1.sf.free hp) (s1.free hp)⟩
    · cases e2
      obtain ⟨v, rfl, hv⟩ := HasRL.one h1
      obtain ⟨a, ys, rfl, q, l⟩ := hv.tup R1
      exact ⟨a, ys, rfl, .inr q, fun p hp => k _ _ _ _ (R1.layN hp) (s1.trans (same_upd hp)) t1 l upd_same (R1.sf.free hp) (s1.free hp)⟩
    · cases e2
end
end
end FL
set_option Elab.async false
set_option linter.all false
set_option maxRecDepth 100000
set_option maxHeartbeats 4000000
namespace FL
open PySem PySem.Spec PyProof.Rows L2
theorem relV_inj {y y' : V} {u : Value} {K : PySem.W.Frag} {H : Hp} {d d' : D} (h : Has K H d y) (h' : Has K H d' y') (r : RelV y u) (r' : RelV y' u) : y = y' := by
  cases d with
  | non =>
    cases Has.non_iff.mp h
    cases r
    cases d' with
    | non => cases Has.non_iff.mp h'; rfl
    | bl _ => cases Has.bl_iff.mp h'; cases r'
    | int _ => cases Has.int_iff.mp h'; obtain ⟨t, e⟩ := r'; cases e
    | str _ => cases Has.str_iff.mp h'; obtain ⟨t, e⟩ := r'; cases e
    | tup _ => obtain ⟨_, _, rfl, _⟩ := Has.tup_iff.mp h'; cases r'
    | lst _ => obtain ⟨_, _, rfl, _⟩ := Has.lst_iff.mp h'; cases r'
  | bl b =>
    cases Has.bl_iff.mp h
    cases r
    cases d' with
    | non => cases Has.non_iff.mp h'; cases r'
    | bl _ => cases Has.bl_iff.mp h'; cases r'; rfl
    | int _ => cases Has.int_iff.mp h'; obtain ⟨t, e⟩ := r'; cases e
    | str _ => cases Has.str_iff.mp h'; obtain ⟨t, e⟩ := r'; cases e
    | tup _ => obtain ⟨_, _, rfl, _⟩ := Has.tup_iff.mp h'; cases r'
    | lst _ => obtain ⟨_, _, rfl, _⟩ := Has.lst_iff.mp h'; cases r'
  | int b =>
    cases Has.int_iff.mp h
    obtain ⟨t0, rfl⟩ := r
    cases d' with
    | non => cases Has.non_iff.mp h'; cases r'
    | bl _ => cases Has.bl_iff.mp h'; cases r'
    | int _ => cases Has.int_iff.mp h'; obtain ⟨t, e⟩ := r'; cases e; rfl
    | str _ => cases Has.str_iff.mp h'; obtain ⟨t, e⟩ := r'; cases e
    | tup _ => obtain ⟨_, _, rfl, _⟩ := Has.tup_iff.mp h'; cases r'
    | lst _ => obtain ⟨_, _, rfl, _⟩ := Has.lst_iff.mp h'; cases r'
  | str b =>
    cases Has.str_iff.mp h
    obtain ⟨t0, rfl⟩ := r
    cases d' with
    | non => cases Has.non_iff.mp h'; cases r'
    | bl _ => cases Has.bl_iff.mp h'; cases r'
    | int _ => cases Has.int_iff.mp h'; obtain ⟨t, e⟩ := r'; cases e
    | str _ => cases Has.str_iff.mp h'; obtain ⟨t, e⟩ := r'; cases e; rfl
    | tup _ => obtain ⟨_, _, rfl, _⟩ := Has.tup_iff.mp h'; cases r'
    | lst _ => obtain ⟨_, _, rfl, _⟩ := Has.lst_iff.mp h'; cases r'
  | tup ds =>
    obtain ⟨a, _, rfl, _⟩ := Has.tup_iff.mp h
    cases r
    cases d' with
    | non => cases Has.non_iff.mp h'; cases r'
    | bl _ => cases Has.bl_iff.mp h'; cases r'
    | int _ => cases Has.int_iff.mp h'; obtain ⟨t, e⟩ := r'; cases e
    | str _ => cases Has.str_iff.mp h'; obtain ⟨t, e⟩ := r'; cases e
    | tup _ => obtain ⟨_, _, rfl, _⟩ := Has.tup_iff.mp h'; cases r'; rfl
    | lst _ => obtain ⟨_, _, rfl, _⟩ := Has.lst_iff.mp h'; cases r'; rfl
  | lst ds =>
    obtain ⟨a, _, rfl, _⟩ := Has.lst_iff.mp h
    cases r
    cases d' with
    | non => cases Has.non_iff.mp h'; cases r'
    | bl _ => cases Has.bl_iff.mp h'; cases r'
    | int _ => cases Has.int_iff.mp h'; obtain ⟨t, e⟩ := r'; cases e
    | str _ => cases Has.str_iff.mp h'; obtain ⟨t, e⟩ := r'; cases e
    | tup _ => obtain ⟨_, _, rfl, _⟩ := Has.tup_iff.mp h'; cases r'; rfl
    | lst _ => obtain ⟨_, _, rfl, _⟩ := Has.lst_iff.mp h'; cases r'; rfl
open Classical in
/-- an item's answer, read off its datum -/
noncomputable def ansU (K : PySem.W.Frag) (H : Hp) (dx : D) (u : Value) : Bool := decide (∃ d y, RelV y u ∧ Has K H d y ∧ eqD d dx = true)
section
variable {X : Cx} {pins : List (Addr × Obj)} {σ : St} {H : Hp} {s : Shared}
open Classical in
theorem ansU_of (I : Inv X pins σ H s) {dx d : D} {y : V} {u : Value} (r : RelV y u) (h : Has X.K H d y) : ansU X.K H dx u = eqD d dx := by
  unfold ansU
  cases hq : eqD d dx with
  | true => exact decide_eq_true ⟨d, y, r, h, hq⟩
  | false =>
    refine decide_eq_false ?_
    rintro ⟨d', y', r', h', e'⟩
    cases relV_inj h' h r' r
    cases Has.inj I h' h
    rw [hq] at e'; cases e'
theorem any_ansU (I : Inv X pins σ H s) {dx : D} : ∀ {ds : List D} {xs : List V} {us : List Value}, HasL X.K H ds xs → Vals xs us → us.any (ansU X.K H dx) = ds.any fun d => eqD d dx
  | [], _, _, h, r => by rw [HasL.nil_iff] at h; subst h; cases r; rfl
  | d :: ds, _, _, h, r => by
    obtain ⟨x, xr, rfl, h1, h2⟩ := HasL.cons_iff.mp h
    cases r with
    | cons r rr => rw [List.any_cons, List.any_cons, ansU_of I r h1, any_ansU I h2 rr]
theorem mem_ansU (I : Inv X pins σ H s) {A : Around} {dx : D} {x : V} {v : Value} (hx : Has X.K H dx x) (rx : RelV x v) : ∀ {ds : List D} {xs : List V} {us : List Value}, HasL X.K H ds xs → Vals xs us → A.units + depL ds < cLine → ∀ u ∈ us, SeqAt.EqAt A s u v (ansU X.K H dx u)
  | [], _, _, h, r, _ => by rw [HasL.nil_iff] at h; subst h; cases r; intro u hu; cases hu
  | d :: ds, _, _, h, r, hu => by
    obtain ⟨y, yr, rfl, h1, h2⟩ := HasL.cons_iff.mp h
    unfold depL at hu
    cases r with
    | cons r rr =>
      intro u' hu'
      rcases List.mem_cons.mp hu' with rfl | hm
      · rw [ansU_of I r h1]
        exact eqAt_of I d A dx y x _ v h1 hx r rx (by have := Nat.le_max_left (dep d) (depL ds); omega)
      · exact mem_ansU I hx rx h2 rr (by have := Nat.le_max_right (dep d) (depL ds); omega) u' hm
end
section
variable {X : Cx} {e a b c : Expr} {f g h : FE} {pos p2 : Pos} {kk : Nat}
def inS (x z : Str) : Bool := !(Builtin.Str.occurrences z x 0 z.length 1).isEmpty
def rInD (K : PySem.W.Frag) (neg : Bool) : R2 := fun x y H Q => (∃ p ds xs dx, y = .ref p ∧ (SqL K H p xs ∨ SqT K H p xs) ∧ HasL K H ds xs ∧ Has K H dx x ∧ depL ds ≤ 100 ∧ Q (.bl (xor neg (ds.any fun d => eqD d dx))) H) ∨
  (∃ i j, x = .str i ∧ y = .str j ∧ Q (.bl (xor neg (inS i j))) H)
theorem op_inD (hr : Room kk X.A) : OpR X (compareOp .In) (rInD X.K false) := by
  intro pins s σ H x y v u Q I rx ry h
  rcases h with ⟨p, ds, xs, dx, rfl, hq, hl, hx, hd, q⟩ | h
  · cases ry
    have hu : X.A.in1.units + depL ds < cLine := by show X.A.units + 1 + depL ds < cLine; have := hr.un; omega
    simp only [Bool.false_xor] at q
    rcases hq with hq | hq
    · obtain ⟨its, r, pl, hz⟩ := I.list hq
      refine SeqAt.in_listAt (ansU X.K H dx) pl.isList (fun w hw => mem_ansU I hx rx hl r hu w (by simpa using hw)) ⟨.bl _, H, I, rfl, ?_⟩
      rw [show its.toArray.any (ansU X.K H dx) = its.any (ansU X.K H dx) by simp, any_ansU I hl r]
      exact q
    · obtain ⟨its, r, pl, hz⟩ := I.tuple hq
      refine SeqAt.in_tupleAt (ansU X.K H dx) pl (fun w hw => mem_ansU I hx rx hl r hu w (by simpa using hw)) ⟨.bl _, H, I, rfl, ?_⟩
      rw [show its.toArray.any (ansU X.K H dx) = its.any (ansU X.K H dx) by simp, any_ansU I hl r]
      exact q
  · obtain ⟨i, j, e1, e2, q⟩ := h
    exact op_in_str pins s σ H x y v u Q I rx ry ⟨i, j, e1, e2, by simpa [inS] using q⟩
theorem op_notInD (hr : Room kk X.A) : OpR X (compareOp .NotIn) (rInD X.K true) := by
  intro pins s σ H x y v u Q I rx ry h
  rcases h with ⟨p, ds, xs, dx, rfl, hq, hl, hx, hd, q⟩ | h
  · cases ry
    have hu : X.A.in1.units + depL ds < cLine := by show X.A.units + 1 + depL ds < cLine; have := hr.un; omega
    simp only [Bool.true_xor] at q
    rcases hq with hq | hq
    · obtain ⟨its, r, pl, hz⟩ := I.list hq
      refine SeqAt.notIn_listAt (ansU X.K H dx) pl.isList (fun w hw => mem_ansU I hx rx hl r hu w (by simpa using hw)) ⟨.bl _, H, I, rfl, ?_⟩
      rw [show its.toArray.any (ansU X.K H dx) = its.any (ansU X.K H dx) by simp, any_ansU I hl r]
      exact q
    · obtain ⟨its, r, pl, hz⟩ := I.tuple hq
      refine SeqAt.notIn_tupleAt (ansU X.K H dx) pl (fun w hw => mem_ansU I hx rx hl r hu w (by simpa using hw)) ⟨.bl _, H, I, rfl, ?_⟩
      rw [show its.toArray.any (ansU X.K H dx) = its.any (ansU X.K H dx) by simp, any_ansU I hl r]
      exact q
  · obtain ⟨i, j, e1, e2, q⟩ := h
    exact op_notin_str pins s σ H x y v u Q I rx ry ⟨i, j, e1, e2, by simpa [inS] using q⟩
def inD (neg : Bool) : D → D → Option D
  | x, .lst ds => if depL ds ≤ 100 then some (.bl (xor neg (ds.any fun d => eqD d x))) else none
  | x, .tup ds => if depL ds ≤ 100 then some (.bl (xor neg (ds.any fun d => eqD d x))) else none
  | .str x, .str z => some (.bl (xor neg (inS x z)))
  | _, _ => none
theorem opD_in {neg : Bool} : OpD X (rInD X.K neg) (inD neg) := by
  intro σ ρ H₀ Hf₀ H Hf x y dx dy d Q R hx hy hφ k
  unfold inD at hφ
  split at hφ
  · split at hφ
    · cases hφ
      rename_i hd
      obtain ⟨a, xs, rfl, qa, la⟩ := hy.lst R
      exact .inl ⟨a, _, xs, dx, rfl, .inl qa, la.mono R.sf, hx.full R, hd, k _ _ _ R sameR sameR (Has.bl_iff.mpr rfl)⟩
    · cases hφ
  · split at hφ
    · cases hφ
      rename_i hd
      obtain ⟨a, xs, rfl, qa, la⟩ := hy.tup R
      exact .inl ⟨a, _, xs, dx, rfl, .inr qa, la.mono R.sf, hx.full R, hd, k _ _ _ R sameR sameR (Has.bl_iff.mpr rfl)⟩
    · cases hφ
  · cases hφ
    exact .inr ⟨_, _, hx.str, hy.str, k _ _ _ R sameR sameR (Has.bl_iff.mpr rfl)⟩
  · cases hφ
theorem dt_in (hr : Room kk X.A) (ha : DR X a f) (hb : DR X b g) (hm : behindInMarks .In b = false := by rfl) : DT X (.Compare a [.In] [b] pos) (blF (bind2 (inD false) f g)) := pt_of_cmp (op_inD hr) opD_in ha hb hm
theorem dt_notin (hr : Room kk X.A) (ha : DR X a f) (hb : DR X b g) (hm : behindInMarks .NotIn b = false := by rfl) : DT X (.Compare a [.NotIn] [b] pos) (blF (bind2 (inD true) f g)) := pt_of_cmp (op_notInD hr) opD_in ha hb hm
theorem same_none {H : Hp} : Same (fun _ => none) H := fun _ _ e => by cases e
end
end FL
set_option Elab.async false
set_option linter.all false
set_option maxRecDepth 100000
set_option maxHeartbeats 4000000
namespace FL
open PySem PySem.Spec PyProof.Rows L2
section
variable {prog : Program} {w : World} {A : Around} {E : Value → Shared → Prop} {s : Shared}
end
section
variable {X : Cx} {e : Expr} {f : FE} {pos : Pos} {tg : Expr}
end
end FL
set_option Elab.async false
set_option linter.all false
set_option maxRecDepth 100000
set_option maxHeartbeats 4000000
namespace FL
open PySem PySem.Spec PyProof.Rows L2
section
variable {X : Cx} {e : Expr} {f : FE} {pos : Pos} {tg : Expr}
theorem di_seq (he : DE X e f) : DI X tg e (seqItems f) := by
  intro pins s σ H R I h
  obtain ⟨H₀, Hf₀, ρ, Hf, ds, R0, q, k⟩ := h
  obtain ⟨d, q3, q4⟩ := bindV_some q
  refine thn (he pins s σ H (fun v H1 => ∃ Hf1, Rep X.K H₀ Hf₀ σ ρ H1 Hf1 ∧ Same H H1 ∧ Same Hf Hf1 ∧ Has X.K Hf1 d v) I ⟨H₀, Hf₀, ρ, Hf, d, R0, q3, fun v H1 Hf1 R1 s1 t1 h1 => ⟨Hf1, R1, s1, t1, h1⟩⟩) fun u s1 ⟨v, H1, I1, r, Hf1, R1, s1', t1, h1⟩ => ?_
  cases d with
  | lst ds' =>
    cases q4
    obtain ⟨a, xs, rfl, qa, la⟩ := Has.lst_iff.mp h1
    cases r
    obtain ⟨its, rv, p, hz⟩ := I1.list (R1.sf.seq qa)
    refine wpAny_pyIter_list p.isList ?_
    refine ⟨s1.heap.objs.size, [s1.heap.objs.size], _, _, H1, rfl, I1.kept (t' := s1.toks) fun b o e => Heap.get?_push_of_some _ e, turn_list a _, ⟨_, Heap.get?_push_size _ rfl, rfl, rfl⟩, fun b hb => ?_, k _ _ _ R1 s1' t1 (walks_list qa la)⟩
    have e : b = s1.heap.objs.size := by simpa using hb
    subst e
    exact I1.fpOk (Nat.le_refl _) (I1.hok.fresh (Nat.le_refl _))
  | tup ds' =>
    cases q4
    obtain ⟨a, xs, rfl, qa, la⟩ := Has.tup_iff.mp h1
    cases r
    obtain ⟨its, rv, p, hz⟩ := I1.tuple (sameT R1.sf qa)
    refine wpAny_pyIter_tuple (show s1.heap.IsTuple a its.toArray from p) ?_
    refine ⟨s1.heap.objs.size, [s1.heap.objs.size], _, _, H1, rfl, I1.kept (t' := s1.toks) fun b o e => Heap.get?_push_of_some _ e, turn_tuple a _, ⟨_, Heap.get?_push_size _ rfl, rfl, rfl⟩, fun b hb => ?_, k _ _ _ R1 s1' t1 (walks_tup qa la)⟩
    have e : b = s1.heap.objs.size := by simpa using hb
    subst e
    exact I1.fpOk (Nat.le_refl _) (I1.hok.fresh (Nat.le_refl _))
  | _ => cases q4
end
def isKind (k : NameKind) : Option NameKind → Bool
  | some k' => k' == k
  | none => false
def compOk (osc scope : Scope) (frees : List Str) : Bool :=
  scope.kind == .function && scope.names.all (fun y => !(y.2 == .cell)) && scope.names.all (fun y => !(y.2 == .local) || isKind .local (scope.names.lookup y.1)) &&
  scope.names.all (fun y => !(y.2 == .free) || (isKind .cell (osc.names.lookup y.1) || isKind .free (osc.names.lookup y.1))) &&
  frees.all (fun x => (isKind .cell (osc.names.lookup x) || isKind .free (osc.names.lookup x)) && isKind .free (scope.names.lookup x))
theorem isKind_eq {k : NameKind} {o : Option NameKind} (h : isKind k o = true) : o = some k := by
  unfold isKind at h
  split at h
  · rw [eq_of_beq h]
  · cases h
theorem CompScope.of {osc scope : Scope} {own frees : List Str} (h : compOk osc scope frees = true) : CompScope osc scope own frees := by
  unfold compOk at h
  simp only [Bool.and_eq_true, List.all_eq_true] at h
  obtain ⟨⟨⟨⟨h1, h2⟩, h3⟩, h4⟩, h5⟩ := h
  refine ⟨eq_of_beq h1, fun y hy z => ?_, fun y hy z => ?_, fun y hy z => ?_, fun x hx => ?_⟩
  · have := h2 y hy
    rw [z] at this
    simp at this
  · have := h3 y hy
    rw [z] at this
    simp at this
    exact isKind_eq this
  · have := h4 y hy
    rw [z] at this
    simp at this
    exact this.imp isKind_eq isKind_eq
  · have := h5 x hx
    exact ⟨(by simpa using this.1 : _ ∨ _).imp isKind_eq isKind_eq, isKind_eq this.2⟩
section
variable {X : Cx} {scope : Scope} {own frees : List Str} {caps : List Nat}
theorem Rep.lstFrz {K : PySem.W.Frag} {H₀ Hf₀ : Hp} {σ : St} {ρ : Rho} {H Hf H' Hf' : Hp} {a : Addr} {xs : List V} (R : Rep K H₀ Hf₀ σ ρ H Hf) (R' : Rep K H₀ Hf₀ σ ρ H' Hf') (ha : H' a = some (.lst xs)) (hn : Hf' a = none) (hh : H a = none) : Rep K H₀ Hf₀ σ ρ H' (upd Hf' a (.lst xs)) := by
  have sm : Same Hf' (upd Hf' a (.lst xs)) := same_upd hn
  refine ⟨R'.s0, fun b u z => ?_, fun b u z => ?_, R'.f0.trans sm, R'.len, fun i d z => ?_, fun i sl z o => ?_, R'.inj⟩
  · by_cases hb : b = a
    · subst hb; rw [upd_same] at z; cases z; exact ha
    · rw [upd_ne hb] at z; exact R'.sf b u z
  · by_cases hb : b = a
    · subst hb; exact .inr (.inl (R.s0.free hh))
    · rw [upd_ne hb] at z; exact R'.nf b u z
  · obtain ⟨v, p1, p2⟩ := R'.fr i d z
    exact ⟨v, p1, p2.mono sm⟩
  · obtain ⟨b, p1, p2, p3, p4⟩ := R.ow i sl z o
    obtain ⟨b', r1, r2, r3, r4⟩ := R'.ow i sl z o
    rw [p1] at r1; cases r1
    refine ⟨b, p1, r2.mono (fun u q => q) sm, ?_, r4⟩
    rw [upd_ne]
    · exact r3
    · rintro rfl
      obtain ⟨o', q'⟩ := p2.there o
      rw [q'] at hh; cases hh
theorem ds_asgComp {tg elt iter : Expr} {ifs : List Expr} {y : Str} {py pos spos : Pos} {fi : FA} {γ : FG} {ft : FT} {f : FE} (i : Nat) (hN : X.N.Nodup) (hc : X.calm = true) (S : CompScope X.env.scope scope own frees) (hcap : caps.map (fun j => X.N[j]?) = frees.map some) (kn : KeepsNo γ) (hi : DI X tg iter fi)
    (body : ∀ cl C s H fp, DG (cxC X scope cl C (own ++ frees) s H fp) tg γ ∧ DQ (cxC X scope cl C (own ++ frees) s H fp) ifs ft ∧ DE (cxC X scope cl C (own ++ frees) s H fp) elt f)
    (hsw : swapsWith (.ListComp elt [⟨tg, iter, ifs, 0⟩] scope pos) (some (.Name y py)) spos.line X.env = pure true := by rfl) (hiN : X.N[i]? = some y := by rfl) (hy : X.env.scope.names.lookup y = some .local := by rfl)
    (hs : ∀ x, foldedSetIterable iter X.env x = pure x := by intro _; rfl) : DS X (.Assign [.Name y py] (.ListComp elt [⟨tg, iter, ifs, 0⟩] scope pos) spos) (asgF i (mapLst (compF own.length caps fi γ ft f))) :=
  ps_imp (wp_asgComp hc S hcap kn hi body hsw i hN hiN hy hs) fun D' σ H ⟨H₀, Hf₀, ρ, Hf, o, R, q, k⟩ => by
    obtain ⟨d, e1, e2⟩ := bindV_some q
    cases e2
    unfold mapLst at e1
    cases e3 : compF own.length caps fi γ ft f ρ with
    | none => rw [e3] at e1; cases e1
    | some ds =>
      rw [e3] at e1
      cases e1
      refine ⟨H₀, Hf₀, ρ, Hf, ds, R, e3, fun a xs H1 Hf1 R1 s1 t1 h1 ha hn hh => ?_⟩
      have sm : Same Hf1 (upd Hf1 a (.lst xs)) := same_upd hn
      exact k _ _ _ ((R.lstFrz R1 ha hn hh).set i (Has.lst_iff.mpr ⟨a, xs, rfl, SqL.of upd_same, h1.mono sm⟩)) (t1.trans sm)
end
end FL
set_option Elab.async false
set_option linter.all false
set_option maxRecDepth 100000
set_option maxHeartbeats 4000000
namespace FL
open PySem PySem.Spec PyProof.Rows L2
section
variable {ρ : Rho} {i j k : Nat} {f g h : FE} {fa ga : FA} {ft gt ht : FT} {F G B : FS} {γ : FG} {δ : FGs} {d x y : D} {ds : List D}
@[simp] theorem s_vF : vF i ρ = (match ρ[i]? with | some (.fr d) => some d | _ => none) := rfl
@[simp] theorem s_vR : vR i ρ = (match ρ[i]? with | some (.fr d) => some d | some (.ol ds) => some (.lst ds) | _ => none) := rfl
@[simp] theorem s_cF : cF d ρ = some d := rfl
@[simp] theorem s_bind1 {φ : D → Option D} : bind1 φ f ρ = (f ρ).bind φ := rfl
@[simp] theorem s_bind2 {φ : D → D → Option D} : bind2 φ f g ρ = (f ρ).bind fun x => (g ρ).bind fun y => φ x y := rfl
@[simp] theorem s_nilA : nilA ρ = some [] := rfl
@[simp] theorem s_consA : consA f ga ρ = (f ρ).bind fun x => (ga ρ).bind fun xs => some (x :: xs) := rfl
@[simp] theorem s_tupF : tupF ga ρ = (ga ρ).bind fun xs => if xs.length ≤ sizeLine then some (.tup xs) else none := rfl
@[simp] theorem s_lstF : lstF ga ρ = (ga ρ).bind fun xs => if xs.length ≤ sizeLine then some xs else none := rfl
@[simp] theorem s_mapLst : mapLst fa ρ = (fa ρ).map D.lst := rfl
@[simp] theorem s_blF : blF f ρ = (f ρ).bind fun | .bl b => some b | _ => none := rfl
@[simp] theorem s_andT : andT ft gt ρ = (ft ρ).bind fun b => if b = true then gt ρ else some false := rfl
@[simp] theorem s_orT : orT ft gt ρ = (ft ρ).bind fun b => if b = true then some true else gt ρ := rfl
@[simp] theorem s_notT : notT ft ρ = (ft ρ).bind fun b => some (!b) := rfl
@[simp] theorem s_ttF : ttF ρ = some true := rfl
@[simp] theorem s_andV : andV f g ρ = (f ρ).bind fun | .bl b => (if b = true then g ρ else some (.bl false)) | _ => none := rfl
@[simp] theorem s_notV : notV f ρ = (f ρ).bind fun | .bl b => some (.bl (!b)) | _ => none := rfl
@[simp] theorem s_appF {φ : List D → Option D} : appF φ fa ρ = (fa ρ).bind φ := rfl
@[simp] theorem s_seqF : seqF F G ρ = (F ρ).bind fun o => match o with | .nx ρ' => G ρ' | o => some o := rfl
@[simp] theorem s_nxF : nxF ρ = some (.nx ρ) := rfl
@[simp] theorem s_retF : retF f ρ = (f ρ).bind fun d => some (.rt d) := rfl
@[simp] theorem s_ifS : ifS ft F G ρ = (ft ρ).bind fun b => if b = true then F ρ else G ρ := rfl
@[simp] theorem s_asgF : asgF i f ρ = (f ρ).bind fun d => some (.nx (ρ.set i (.fr d))) := rfl
@[simp] theorem s_asgN : asgN i fa ρ = (fa ρ).bind fun ds => some (.nx (ρ.set i (.ol ds))) := rfl
@[simp] theorem s_asgG : asgG γ f ρ = (f ρ).bind fun d => (γ d ρ).bind fun ρ' => some (.nx ρ') := rfl
@[simp] theorem s_frzF : frzF i F ρ = (frz i ρ).bind F := rfl
@[simp] theorem s_frz : frz i ρ = (match ρ[i]? with | some (.ol ds) => some (ρ.set i (.fr (.lst ds))) | some (.fr _) => some ρ | _ => none) := rfl
@[simp] theorem s_nameG : nameG i d ρ = some (ρ.set i (.fr d)) := rfl
@[simp] theorem s_nilG : nilG [] ρ = some ρ := rfl
@[simp] theorem s_consG {r : List D} : consG γ δ (d :: r) ρ = (γ d ρ).bind fun ρ' => δ r ρ' := rfl
@[simp] theorem s_tupG : tupG k δ (.tup ds) ρ = if ds.length = k then δ ds ρ else none := rfl
@[simp] theorem s_parF : parF i j fa ρ = (fa ρ).bind fun l => match l with | [d, d'] => some (.nx ((ρ.set i (.fr d)).set j (.fr d'))) | _ => none := rfl
@[simp] theorem s_appendF : appendF i f ρ = (f ρ).bind fun d => match ρ[i]? with | some (.ol ds) => if ds.length < sizeLine then some (.nx (ρ.set i (.ol (ds ++ [d])))) else none | _ => none := rfl
@[simp] theorem s_forF : forF fa γ B ρ = (fa ρ).bind fun ds => loopF γ B ds ρ := rfl
@[simp] theorem s_itemsE : itemsE f ρ = (seqItems f ρ).bind fun ds => some (enumD ds) := rfl
@[simp] theorem s_itemsZ : itemsZ f g ρ = (seqItems f ρ).bind fun xs => (seqItems g ρ).bind fun ys => some (zipD xs ys) := rfl
@[simp] theorem s_seqItems : seqItems f ρ = (f ρ).bind seqOf := rfl
@[simp] theorem s_seqL : seqOf (.lst ds) = some ds := rfl
@[simp] theorem s_seqT : seqOf (.tup ds) = some ds := rfl
@[simp] theorem s_noP : noP ρ = some none := rfl
@[simp] theorem s_exP : exP f ρ = (f ρ).bind fun | .int i => some (some i) | _ => none := rfl
@[simp] theorem s_sliceF {l u : FP} : sliceF f l u ρ = (f ρ).bind fun x => (l ρ).bind fun lo => (u ρ).bind fun hi => match x with | .tup ds => some (.tup (cutL ds lo hi)) | .lst ds => some (.lst (cutL ds lo hi)) | _ => none := rfl
@[simp] theorem s_listN : listN fa ρ = (fa ρ).bind fun l => match l with | [.lst ds] => some ds | [.tup ds] => some ds | _ => none := rfl
@[simp] theorem s_compF {n : Nat} {caps : List Nat} {fi : FA} : compF n caps fi γ ft f ρ = (fi ρ).bind fun ds => if ds.length ≤ sizeLine then compGo γ ft f ds (compS n caps ρ) else none := rfl
@[simp] theorem s_compS {n : Nat} {caps : List Nat} : compS n caps ρ = List.replicate n .no ++ caps.map (capS ρ) := rfl
@[simp] theorem s_capS : capS ρ j = (match ρ[j]? with | some (.fr d) => .fr d | _ => .no) := rfl
@[simp] theorem s_rng1 : rng1 fa ρ = (fa ρ).bind rangeA := rfl
@[simp] theorem s_rng2 : rng2 fa ρ = (fa ρ).bind rangeB := rfl
theorem rangeA_ok {j : Int} (h1 : -1000000 ≤ j) (h2 : j ≤ 1000000) : rangeA [.int j] = some (rangeD 0 j) := by
  show @ite _ (-(2 ^ 62) ≤ j ∧ j < 2 ^ 62) (Classical.propDecidable _) (some (rangeD 0 j)) none = _
  rw [if_pos (by omega)]
theorem rangeB_ok {i j : Int} (h1 : -1000000 ≤ i) (h2 : i ≤ 1000000) (h3 : -1000000 ≤ j) (h4 : j ≤ 1000000) : rangeB [.int i, .int j] = some (rangeD i j) := by
  show @ite _ (-(2 ^ 62) ≤ i ∧ i < 2 ^ 62 ∧ -(2 ^ 62) ≤ j ∧ j < 2 ^ 62) (Classical.propDecidable _) (some (rangeD i j)) none = _
  rw [if_pos (by omega)]
@[simp] theorem s_denF : denF k F ds = outD (F (startR k ds)) := rfl
@[simp] theorem s_outR : outD (some (.rt d)) = some d := rfl
@[simp] theorem s_outN : outD (some (.nx ρ)) = some .non := rfl
@[simp] theorem s_startR : startR k ds = ds.map Slot.fr ++ List.replicate (k - ds.length) Slot.no := rfl
variable {a b : Int}
@[simp] theorem s_sub : subD (.int a) (.int b) = some (.int (a - b)) := rfl
@[simp] theorem s_add : addX (.int a) (.int b) = some (.int (a + b)) := rfl
@[simp] theorem s_lt : ltD (.int a) (.int b) = some (.bl (decide (a < b))) := rfl
@[simp] theorem s_gt : gtD (.int a) (.int b) = some (.bl (decide (b < a))) := rfl
@[simp] theorem s_ge : geD (.int a) (.int b) = some (.bl (decide (b ≤ a))) := rfl
@[simp] theorem s_neg : negD (.int a) = some (.int (-a)) := rfl
@[simp] theorem s_eqi : eqF (.int a) (.int b) = some (.bl (decide (a = b))) := eqF_int
@[simp] theorem s_nei : neF (.int a) (.int b) = some (.bl (!decide (a = b))) := neF_int
@[simp] theorem s_isN : isD k' .non .non = some (.bl (!k')) := rfl
@[simp] theorem s_min : minD [.int a, .int b] = some (.int (if b < a then b else a)) := rfl
@[simp] theorem s_max : maxD [.int a, .int b] = some (.int (if b > a then b else a)) := rfl
@[simp] theorem s_lenL : lenD [.lst ds] = some (.int ds.length) := rfl
@[simp] theorem s_lenT : lenD [.tup ds] = some (.int ds.length) := rfl
@[simp] theorem s_tuL : tupleD [.lst ds] = some (.tup ds) := rfl
@[simp] theorem s_tuT : tupleD [.tup ds] = some (.tup ds) := rfl
@[simp] theorem s_isTy {T : String} : isTy T d = some (.bl (subTy (tyN d) T)) := rfl
end
end FL
set_option Elab.async false
set_option linter.all false
set_option maxRecDepth 100000
set_option maxHeartbeats 4000000
namespace FL
open PySem PySem.Spec PyProof.Rows L2
section
variable {X : Cx}
theorem HasL.rep {K : PySem.W.Frag} {H : Hp} {ds : List D} {xs : List V} (h : HasL K H ds xs) : ∀ k : Nat, HasL K H (List.replicate k ds).flatten (List.replicate k xs).flatten
  | 0 => .nil
  | k + 1 => by
    rw [List.replicate_succ, List.replicate_succ, List.flatten_cons, List.flatten_cons]
    exact h.append (HasL.rep h k)
end
end FL
set_option Elab.async false
set_option linter.all false
set_option maxRecDepth 100000
set_option maxHeartbeats 4000000
namespace FL
open PySem PySem.Spec PyProof.Rows L2
theorem bools_are : ∀ {bs : List Bool} {us : List Value}, Vals (bs.map V.bl) us → LSm.BoolsAre us bs
  | [], _, r => by cases r; exact .nil
  | b :: bs, _, r => by
    rw [List.map_cons] at r
    cases r with
    | cons r1 r2 => cases r1; exact .cons b (bools_are r2)
theorem ints_are : ∀ {ns : List Int} {us : List Value}, Vals (ns.map V.int) us → IntsAre us ns
  | [], _, r => by cases r; exact .nil
  | n :: ns, _, r => by
    rw [List.map_cons] at r
    cases r with
    | cons r1 r2 => obtain ⟨t, rfl⟩ := r1; exact .cons n t (ints_are r2)
variable {X : Cx}
theorem call_all (hc : X.calm = true) : CallR X (.builtin "all") (fun xs H Q => ∃ (p : Addr) (bs : List Bool), xs = [.ref p] ∧ SqL X.K H p (bs.map V.bl) ∧ Q (.bl (bs.all id)) H) := by
  intro pins s σ H xs us Q I r h
  obtain ⟨p, bs, rfl, hq, q⟩ := h
  obtain ⟨u, rfl, rx⟩ := vals1 r
  cases rx
  obtain ⟨its, r', pl, hz⟩ := I.list hq
  have hb := bools_are r'
  have hl := pl.isList
  have hlt : p < s.heap.objs.size := by obtain ⟨_, e, _⟩ := hl; exact Heap.lt_size e
  refine call_all_walk (wpAny_pyIter_list hl ?_)
  refine ⟨s.heap.objs.size, [s.heap.objs.size, p], [s.heap.objs.size], its.toArray.size, _, _, fun i => (bs[i]?).getD true, rfl, PySem.Walks.list (A := X.A.in1) (I.ok.hd hc) _ p (Nat.ne_of_lt hlt) its.toArray,
    ⟨⟨_, Heap.get?_push_size _ rfl, rfl, rfl⟩, hl.push _⟩, fun i v s' Q' E' hP hQ => ?_, fun h' tk hk => ?_⟩
  · obtain ⟨b, e, rfl⟩ := hb.get i v (by simpa using hP)
    simp only [e, Option.getD_some] at hQ
    exact wpAny_truthy_bool hQ
  · have e : ((List.range its.toArray.size).all fun i => (bs[i]?).getD true) = bs.all id := by
      rw [List.size_toArray, hb.length]; exact LSm.range_all bs
    rw [e]
    exact ⟨.bl (bs.all id), H, I.kept (LSm.kept_iter hk), rfl, q⟩
def boolsOf : List D → Option (List Bool)
  | [] => some []
  | .bl b :: ds => (boolsOf ds).map (b :: ·)
  | _ :: _ => none
def intsOf : List D → Option (List Int)
  | [] => some []
  | .int b :: ds => (intsOf ds).map (b :: ·)
  | _ :: _ => none
theorem HasL.bools {K : PySem.W.Frag} {H : Hp} : ∀ {ds : List D} {xs : List V} {bs : List Bool}, HasL K H ds xs → boolsOf ds = some bs → xs = bs.map V.bl
  | [], [], bs, h, e => by cases e; rfl
  | [], _ :: _, bs, h, e => by have := h.length; cases this
  | _ :: _, [], bs, h, e => by have := h.length; cases this
  | .bl b :: ds, x :: xs, bs, h, e => by
    unfold boolsOf at e
    cases e' : boolsOf ds with
    | none => rw [e'] at e; cases e
    | some cs =>
      rw [e'] at e
      cases e
      obtain ⟨_, _, e0, h1, h2⟩ := HasL.cons_iff.mp h
      cases e0
      rw [Has.bl_iff.mp h1, HasL.bools h2 e']
      rfl
  | .non :: _, _ :: _, _, _, e => by cases e
  | .int _ :: _, _ :: _, _, _, e => by cases e
  | .str _ :: _, _ :: _, _, _, e => by cases e
  | .tup _ :: _, _ :: _, _, _, e => by cases e
  | .lst _ :: _, _ :: _, _, _, e => by cases e
theorem HasL.intsV {K : PySem.W.Frag} {H : Hp} : ∀ {ds : List D} {xs : List V} {bs : List Int}, HasL K H ds xs → intsOf ds = some bs → xs = bs.map V.int
  | [], [], bs, h, e => by cases e; rfl
  | [], _ :: _, bs, h, e => by have := h.length; cases this
  | _ :: _, [], bs, h, e => by have := h.length; cases this
  | .int b :: ds, x :: xs, bs, h, e => by
    unfold intsOf at e
    cases e' : intsOf ds with
    | none => rw [e'] at e; cases e
    | some cs =>
      rw [e'] at e
      cases e
      obtain ⟨_, _, e0, h1, h2⟩ := HasL.cons_iff.mp h
      cases e0
      rw [Has.int_iff.mp h1, HasL.intsV h2 e']
      rfl
  | .non :: _, _ :: _, _, _, e => by cases e
  | .bl _ :: _, _ :: _, _, _, e => by cases e
  | .str _ :: _, _ :: _, _, _, e => by cases e
  | .tup _ :: _, _ :: _, _, _, e => by cases e
  | .lst _ :: _, _ :: _, _, _, e => by cases e
def allD : List D → Option D
  | [.lst ds] => (boolsOf ds).map fun bs => .bl (bs.all id)
  | _ => none
theorem fnR_all : FnR X (fun xs H Q => ∃ (p : Addr) (bs : List Bool), xs = [.ref p] ∧ SqL X.K H p (bs.map V.bl) ∧ Q (.bl (bs.all id)) H) allD := by
  intro σ ρ H₀ Hf₀ H Hf xs ds d Q R hx hφ k
  unfold allD at hφ
  split at hφ
  · obtain ⟨bs, e1, rfl⟩ := Option.map_eq_some_iff.mp hφ
    obtain ⟨v, rfl, hv⟩ := hx.one
    obtain ⟨a, ys, rfl, q, l⟩ := hv.lst R
    have := l.bools e1
    subst this
    exact ⟨a, bs, rfl, q, k _ _ _ R sameR sameR (Has.bl_iff.mpr rfl)⟩
  · cases hφ
theorem boolsOf_map : ∀ bs : List Bool, boolsOf (bs.map D.bl) = some bs
  | [] => rfl
  | b :: bs => by rw [List.map_cons, boolsOf, boolsOf_map bs]; rfl
theorem intsOf_map : ∀ bs : List Int, intsOf (bs.map D.int) = some bs
  | [] => rfl
  | b :: bs => by rw [List.map_cons, intsOf, intsOf_map bs]; rfl
@[simp] theorem s_all (bs : List Bool) : allD [.lst (bs.map D.bl)] = some (.bl (bs.all id)) := by show (boolsOf (bs.map D.bl)).map _ = _; rw [boolsOf_map]; rfl
end FL
set_option Elab.async false
set_option linter.all false
set_option maxRecDepth 100000
set_option maxHeartbeats 4000000
namespace FL
open PySem PySem.Spec PyProof.Rows L2
section
variable {prog : Program} {w : World} {A : Around} {E : Value → Shared → Prop} {s : Shared}
end
variable {X : Cx} {e : Expr} {f : FE} {pos : Pos}
end FL
set_option Elab.async false
set_option linter.all false
set_option maxRecDepth 100000
set_option maxHeartbeats 4000000
namespace FL
open PySem PySem.Spec PyProof.Rows L2
section
variable {X : Cx} {pins : List (Addr × Obj)} {σ : St} {H : Hp} {s : Shared}
end
section
variable {X : Cx} {o e : Expr} {f g : FE} {kk : Nat}
end
end FL
set_option Elab.async false
set_option linter.all false
set_option maxRecDepth 100000
set_option maxHeartbeats 4000000
namespace FL
open PySem PySem.Spec PyProof.Rows L2
section
variable {X : Cx} {tg : Expr}
end
end FL
set_option Elab.async false
set_option linter.all false
set_option maxRecDepth 100000
set_option maxHeartbeats 4000000
namespace FL
open PySem PySem.Spec PyProof.Rows L2
section
variable {X : Cx} {a b c dd : Expr} {f g h i4 : FE} {pos p2 : Pos}
end
section
variable {X : Cx} {e : Expr} {f : FE} {pos : Pos}
def augF (i : Nat) (op : Int → Int → Int) (f : FE) : FS := fun ρ => (f ρ).bind fun y => match ρ[i]?, y with
  | some (.fr (.int m)), .int k => some (.nx (ρ.set i (.fr (.int (op m k)))))
  | _, _ => none
theorem ds_augI {x : Str} {pos' : Pos} {op : Operator} {φ : Int → Int → Int} (i : Nat) (hN : X.N.Nodup) (ho : PIp X op (ipI φ)) (he : DE X e f) (hi : X.N[i]? = some x := by rfl) (hx : Loc X.env.scope x := by first | exact Or.inl rfl | exact Or.inr rfl)
    (hf : X.fn x = true ∨ X.env.scope.names.lookup x = some .local := by first | exact .inl rfl | exact .inr rfl | assumption) : DS X (.AugAssign (.Name x pos') op e pos) (augF i φ f) :=
  ps_imp (ps_aug hN hi hx he ho hf) fun D' σ H ⟨H₀, Hf₀, ρ, Hf, o, R, q, k⟩ => by
    obtain ⟨y, e1, e2⟩ := bindV_some q
    split at e2
    · cases e2
      rename_i m kk el
      obtain ⟨v, p1, p2⟩ := R.fr i _ el
      have pv := Has.int_iff.mp p2
      subst pv
      refine ⟨.int m, p1, H₀, Hf₀, ρ, Hf, .int kk, R, e1, fun v H1 Hf1 R1 s1 t1 h1 => ?_⟩
      exact ⟨m, kk, rfl, Has.int_iff.mp h1, k _ _ _ (R1.set i (Has.int_iff.mpr rfl)) t1⟩
    · cases e2
@[simp] theorem s_augF {i : Nat} {op : Int → Int → Int} {ρ : Rho} : augF i op f ρ = (f ρ).bind fun y => match ρ[i]?, y with
  | some (.fr (.int m)), .int k => some (.nx (ρ.set i (.fr (.int (op m k)))))
  | _, _ => none := rfl
end
section
variable {X : Cx} {e : Expr} {f : FE}
end
end FL
set_option Elab.async false
set_option linter.all false
set_option maxRecDepth 100000
set_option maxHeartbeats 4000000
namespace FL
open PySem PySem.Spec PyProof.Rows L2
section
variable {prog : Program} {w : World} {A : Around} {E : Value → Shared → Prop} {s : Shared}
end
section
variable {P : Program} {w : World} {K : PySem.W.Frag} {J1 J2 : It} {fp1 fp2 : List Addr} {i1 i2 z TI TO : Addr} {tn1 tn2 : Nat → Heap → Prop}
end
section
variable {prog : Program} {w : World} {A : Around} {E : Value → Shared → Prop} {s : Shared}
end
section
variable {X : Cx} {e1 e2 : Expr} {f1 f2 : FE} {pos : Pos} {elts : List Expr} {kx : Nat} {tp : Pos}
end
end FL
set_option Elab.async false
set_option linter.all false
set_option maxRecDepth 100000
set_option maxHeartbeats 4000000
namespace FL
open PySem PySem.Spec PyProof.Rows L2
theorem perm_eq : ∀ {a b : List Int}, a.Perm b → a.Pairwise (· ≤ ·) → b.Pairwise (· ≤ ·) → a = b
  | [], b, h, _, _ => (List.nil_perm.mp h).symm
  | x :: a, [], h, _, _ => by have := h.length_eq; simp at this
  | x :: a, y :: b, h, ha, hb => by
    rw [List.pairwise_cons] at ha hb
    have e : x = y := by
      have h1 : x ∈ y :: b := h.subset List.mem_cons_self
      have h2 : y ∈ x :: a := h.symm.subset List.mem_cons_self
      rcases List.mem_cons.mp h1 with h1 | h1
      · exact h1
      · rcases List.mem_cons.mp h2 with h2 | h2
        · exact h2.symm
        · have := hb.1 x h1
          have := ha.1 y h2
          omega
    subst e
    rw [perm_eq h.cons_inv ha.2 hb.2]
def insI (x : Int) : List Int → List Int
  | [] => [x]
  | y :: l => if x ≤ y then x :: y :: l else y :: insI x l
def sortI : List Int → List Int
  | [] => []
  | x :: l => insI x (sortI l)
theorem insI_perm (x : Int) : ∀ l, (insI x l).Perm (x :: l)
  | [] => .refl _
  | y :: l => by
    unfold insI
    split
    · exact .refl _
    · exact ((insI_perm x l).cons y).trans (.swap x y l)
theorem sortI_perm : ∀ l, (sortI l).Perm l
  | [] => .refl _
  | x :: l => (insI_perm x (sortI l)).trans ((sortI_perm l).cons x)
theorem insI_sorted (x : Int) : ∀ {l : List Int}, l.Pairwise (· ≤ ·) → (insI x l).Pairwise (· ≤ ·)
  | [], _ => List.pairwise_singleton _ _
  | y :: l, h => by
    have h' := List.pairwise_cons.mp h
    unfold insI
    split
    · rename_i c
      refine List.pairwise_cons.mpr ⟨fun z hz => ?_, h⟩
      rcases List.mem_cons.mp hz with rfl | hz
      · exact c
      · exact Int.le_trans c (h'.1 z hz)
    · rename_i c
      refine List.pairwise_cons.mpr ⟨fun z hz => ?_, insI_sorted x h'.2⟩
      rcases List.mem_cons.mp ((insI_perm x l).subset hz) with rfl | hz
      · omega
      · exact h'.1 z hz
theorem sortI_sorted : ∀ l : List Int, (sortI l).Pairwise (· ≤ ·)
  | [] => .nil
  | x :: l => insI_sorted x (sortI_sorted l)
theorem sortI_eq {a b : List Int} (h : a.Perm b) (ha : a.Pairwise (· ≤ ·)) : sortI b = a := perm_eq ((sortI_perm b).trans h.symm) (sortI_sorted b) ha
section
variable {X : Cx} {e : Expr} {pos : Pos}
theorem vals_ints {us : List Value} {ns : List Int} (h : IntsAre us ns) : Vals (ns.map V.int) us := by
  induction h with
  | nil => exact .nil
  | cons _ _ _ ih => exact .cons ⟨_, rfl⟩ ih
theorem call_sorted : CallR X (.builtin "sorted") (fun xs H Q => ∃ (p : Addr) (ns : List Int), xs = [.ref p] ∧ SqL X.K H p (ns.map V.int) ∧ ns.length < 64 ∧ ∀ l, H l = none → Q (.ref l) (upd H l (.lst ((sortI ns).map V.int)))) := by
  intro pins s σ H xs us Q I r h
  obtain ⟨p, ns, rfl, hq, hn, q⟩ := h
  obtain ⟨u, rfl, rx⟩ := vals1 r
  cases rx
  obtain ⟨its, r', pl, hz⟩ := I.list hq
  have hi := ints_are r'
  have hlen := r'.length
  rw [List.length_map] at hlen hz
  refine sorted_ints (vs := its) pl.isList hi (by omega) fun out ns' a1 a2 a3 => ?_
  obtain ⟨e, he⟩ := sortedAll_at s.heap its out
  have es : sortI ns = ns' := sortI_eq a2 a3
  have hf : H (s.heap.objs.size + 1) = none := I.hok.fresh (Nat.le_succ _)
  have q' := q _ hf
  rw [es] at q'
  exact ⟨.ref (s.heap.objs.size + 1), _, I.laid (t' := s.toks) (fun b o x => sortedAll_old x) (Nat.le_succ _) (show ObjOk X.prog X.w _ (sortedAll s.heap its out) _ (.lst (ns'.map V.int)) from ⟨by rw [List.length_map, a2.length_eq]; exact hz, out.toList, e, vals_ints a1, by simpa using he⟩), rfl, q'⟩
def sortN (fa : FA) : FA := fun ρ => (fa ρ).bind fun l => match l with
  | [.lst ds] => (intsOf ds).bind fun ns => if ns.length < 64 then some ((sortI ns).map D.int) else none
  | _ => none
@[simp] theorem s_sortN {fa : FA} {ρ : Rho} : sortN fa ρ = (fa ρ).bind fun l => match l with
  | [.lst ds] => (intsOf ds).bind fun ns => if ns.length < 64 then some ((sortI ns).map D.int) else none
  | _ => none := rfl
theorem hasL_ints {K : PySem.W.Frag} {H : Hp} : ∀ ns : List Int, HasL K H (ns.map D.int) (ns.map V.int)
  | [] => .nil
  | n :: ns => .cons (Has.int_iff.mpr rfl) (hasL_ints ns)
theorem boot_sorted : bootBuiltins "sorted" = some (.builtin "sorted") := by kernel_rfl
theorem dn_sorted {es : List Expr} {fa : FA} {p : Pos} (hg : Gl X "sorted") (hm : X.mg "sorted" = none) (ha : DAR X (e :: es) fa)
    (he : starEach (e :: es) X.env = (false, eval e X.env) :: starEach es X.env := by rfl) (hpl : (backTo pos (starEach es X.env)).any (·.1) = false := by rfl) : DN X (.Call (.Name "sorted" p) (e :: es) [] pos) (sortN fa) :=
  pe_imp (pe_callB (id := "sorted") call_sorted hg hm boot_sorted ha (by decide) (by decide) he hpl) fun σ H Q ⟨H₀, Hf₀, ρ, Hf, d, R, q, k⟩ => by
    obtain ⟨l, e1, e2⟩ := bindA_some q
    refine ⟨H₀, Hf₀, ρ, Hf, l, R, e1, fun vs H1 Hf1 R1 s1 t1 h1 => ?_⟩
    split at e2
    · rename_i ds
      obtain ⟨ns, e3, e4⟩ := Option.bind_eq_some_iff.mp e2
      split at e4
      · rename_i hn
        cases e4
        obtain ⟨v, rfl, hv⟩ := HasRL.one h1
        obtain ⟨a, ys, rfl, q, l⟩ := hv.lst R1
        have ey := HasL.intsV l e3
        subst ey
        exact ⟨a, ns, rfl, q, hn, fun p hp => k _ _ _ _ (R1.layN hp) (s1.trans (same_upd hp)) t1 (hasL_ints _) upd_same (R1.sf.free hp) (s1.free hp)⟩
      · cases e4
    · cases e2
end
end FL
set_option Elab.async false
set_option linter.all false
set_option maxRecDepth 100000
set_option maxHeartbeats 4000000
namespace FL
open PySem PySem.Spec PyProof.Rows L2
section
variable {X : Cx}
end
end FL
set_option Elab.async false
set_option linter.all false
set_option maxRecDepth 100000
set_option maxHeartbeats 4000000
namespace FL
open PySem PySem.Spec PyProof.Rows L2
section
variable {prog : Program} {w : World} {A : Around} {E : Value → Shared → Prop} {s : Shared}
end
section
variable {X : Cx} {e st : Expr} {f fs : FE} {pos p2 : Pos}
end
end FL
set_option Elab.async false
set_option linter.all false
set_option maxRecDepth 100000
set_option maxHeartbeats 4000000
namespace FL
open PySem PySem.Spec PyProof.Rows L2
section
variable {O : KeyOrd} {n : Nat} {key : Nat → O.α}
def Run (O : KeyOrd) (n : Nat) (key : Nat → O.α) {α : Type} : PySem.W.KasT α → (α → Prop) → Prop
  | .ret a, Q => Q a
  | .ask i j k, Q => i < n ∧ j < n ∧ Run O n key (k (O.blt (key i) (key j))) Q
theorem run_mono {α : Type} {Q Q' : α → Prop} (hq : ∀ a, Q a → Q' a) : ∀ {t : PySem.W.KasT α}, Run O n key t Q → Run O n key t Q'
  | .ret a, h => hq a h
  | .ask i j k, h => ⟨h.1, h.2.1, run_mono hq h.2.2⟩
theorem run_bind {α β : Type} {Q : β → Prop} {f : α → PySem.W.KasT β} : ∀ {t : PySem.W.KasT α}, Run O n key t (fun a => Run O n key (f a) Q) → Run O n key (t.bind f) Q
  | .ret a, h => h
  | .ask i j k, h => ⟨h.1, h.2.1, run_bind h.2.2⟩
theorem run_wp {α : Type} {cmp : Nat → Nat → (Bool → Shared → Prop) → Shared → Prop} {s : Shared} (hc : ∀ i j (C : Bool → Shared → Prop), i < n → j < n → C (O.blt (key i) (key j)) s → cmp i j C s) {Q : α → Prop} {G : α → Shared → Prop} (hG : ∀ a, Q a → G a s) :
    ∀ {t : PySem.W.KasT α}, Run O n key t Q → t.kasWp cmp G s
  | .ret a, h => hG a h
  | .ask i j k, h => hc i j _ h.1 h.2.1 (run_wp hc hG h.2.2)
def KP (key : Nat → O.α) (p : Array Nat) (i : Nat) : O.α := key (p[i]?.getD 0)
theorem kp_getD (p : Array Nat) (i : Nat) : key (p.getD i 0) = KP key p i := by unfold KP; rw [Array.getD_eq_getD_getElem?]
theorem kp_congr {p p' : Array Nat} {i j : Nat} (h : p[i]? = p'[j]?) : KP key p i = KP key p' j := by unfold KP; rw [h]
theorem kp_mirror {p : Array Nat} {i j : Nat} (hj : j ≤ p.size) (k : Nat) : KP key (mirror p i j ((j - i) / 2)) k = if i ≤ k ∧ k < j then KP key p (i + j - 1 - k) else KP key p k := by
  have e := getElem?_mirror_all (i := i) hj k
  by_cases h1 : i ≤ k ∧ k < j
  · rw [if_pos h1] at e ⊢; exact kp_congr e
  · rw [if_neg h1] at e ⊢; exact kp_congr e
theorem kp_bubble {p : Array Nat} {src d : Nat} (hs : src < p.size) (hd : d ≤ src) (k : Nat) :
    KP key (bubble p src d) k = if k = src - d then KP key p src else if src - d < k ∧ k ≤ src then KP key p (k - 1) else KP key p k := by
  have e := getElem?_bubble hs d hd k
  by_cases h1 : k = src - d
  · rw [if_pos h1] at e ⊢; exact kp_congr e
  · rw [if_neg h1] at e ⊢
    by_cases h2 : src - d < k ∧ k ≤ src
    · rw [if_pos h2] at e ⊢; exact kp_congr e
    · rw [if_neg h2] at e ⊢; exact kp_congr e
theorem kp_mirror_equal {p : Array Nat} {i j : Nat} (hj : j ≤ p.size) (heq : ∀ k, i ≤ k → k < j → KP key p k = KP key p (j - 1)) (k : Nat) : KP key (mirror p i j ((j - i) / 2)) k = KP key p k := by
  rw [kp_mirror hj]
  split
  · rw [heq _ (by omega) (by omega), heq k (by omega) (by omega)]
  · rfl
def UpTo (key : Nat → O.α) (p : Array Nat) (k : Nat) : Prop := ∀ i j, i ≤ j → j < k → O.kle (KP key p i) (KP key p j)
def DnTo (key : Nat → O.α) (p : Array Nat) (k : Nat) : Prop := ∀ i j, i ≤ j → j < k → O.kle (KP key p j) (KP key p i)
structure Bs (n : Nat) (p : Array Nat) : Prop where
  perm : p.Perm (List.toArray (List.range n))
theorem Bs.size {p : Array Nat} (b : Bs n p) : p.size = n := by rw [b.perm.size_eq]; simp
theorem Bs.lt {p : Array Nat} (b : Bs n p) (hn : 0 < n) (i : Nat) : p.getD i 0 < n := by
  rw [Array.getD_eq_getD_getElem?]
  cases h : p[i]? with
  | none => exact hn
  | some a =>
    have hm : a ∈ p := Array.mem_of_getElem? h
    have : a ∈ List.range n := by simpa using b.perm.mem_iff.mp hm
    simpa using this
theorem Bs.rev {p : Array Nat} (b : Bs n p) (i j : Nat) : Bs n (PySem.W.kas_rev p i j) := ⟨(mirror_perm _ _ _ _).trans b.perm⟩
theorem Bs.bub {p : Array Nat} (b : Bs n p) (i j : Nat) : Bs n (bubble p i j) := ⟨(bubble_perm _ _ _).trans b.perm⟩
theorem run_ask {α : Type} {p : Array Nat} (b : Bs n p) (hn : 0 < n) {i j : Nat} {k : Bool → PySem.W.KasT α} {Q : α → Prop} (h : Run O n key (k (O.blt (KP key p i) (KP key p j))) Q) : Run O n key (.ask (p.getD i 0) (p.getD j 0) k) Q :=
  ⟨b.lt hn i, b.lt hn j, by rw [kp_getD (key := key) p i, kp_getD (key := key) p j]; exact h⟩
open KeyOrd
theorem run_asc {p : Array Nat} (b : Bs n p) : ∀ (f a : Nat), 1 ≤ a → a + f ≤ n → UpTo key p a → Run O n key (PySem.W.kas_asc p f a) fun m => a ≤ m ∧ m ≤ a + f ∧ UpTo key p m ∧ (m = a + f ∨ O.klt (KP key p m) (KP key p (m - 1)))
  | 0, a, _, _, hs => ⟨Nat.le_refl _, Nat.le_refl _, hs, .inl rfl⟩
  | f + 1, a, h1, hf, hs => by
    refine run_ask b (by omega) ?_
    cases hless : O.blt (KP key p a) (KP key p (a - 1)) with
    | true =>
      rw [if_pos rfl]
      exact ⟨Nat.le_refl _, by omega, hs, .inr hless⟩
    | false =>
      rw [if_neg (by simp)]
      refine run_mono ?_ (run_asc b f (a + 1) (by omega) (by omega) ?_)
      · rintro m ⟨x1, x2, x3, x4⟩
        exact ⟨by omega, by omega, x3, x4.imp (fun h => by omega) id⟩
      · intro i j hij hj
        by_cases hjx : j < a
        · exact hs i j hij hjx
        · have hj' : j = a := by omega
          subst hj'
          by_cases hi' : i = j
          · subst hi'; exact kle_refl _
          · exact kle_trans (hs i (j - 1) (by omega) (by omega)) hless
theorem run_tail3 {p : Array Nat} (b : Bs n p) {m : Nat} (h1 : 1 ≤ m) (hm : m ≤ n) (hs : DnTo key p m) : Run O n key (PySem.W.kas_tail3 m n p) fun r => 1 ≤ r.1 ∧ r.1 ≤ n ∧ Bs n r.2 ∧ UpTo key r.2 r.1 := by
  unfold PySem.W.kas_tail3
  have hsz : m ≤ p.size := by rw [b.size]; exact hm
  refine run_bind (run_mono ?_ (run_asc (b.rev 0 m) (n - m) m h1 (by omega) ?_))
  · rintro a ⟨x1, x2, x3, _⟩
    exact ⟨by show 1 ≤ a; omega, by show a ≤ n; omega, b.rev 0 m, x3⟩
  · intro i j hij hj
    show O.kle (KP key (mirror p 0 m ((m - 0) / 2)) i) (KP key (mirror p 0 m ((m - 0) / 2)) j)
    rw [kp_mirror hsz, kp_mirror hsz, if_pos (by omega), if_pos (by omega)]
    exact hs _ _ (by omega) (by omega)
theorem run_desc : ∀ (f : Nat) (p : Array Nat) (x q : Nat), Bs n p → 1 ≤ x → x + f ≤ n → DnTo key p x → q + 1 ≤ x → (∀ i, x - (q + 1) ≤ i → i < x → KP key p i = KP key p (x - 1)) →
    Run O n key (PySem.W.kas_desc f p x q) fun r => Bs n r.1 ∧ x ≤ r.2.1 ∧ r.2.1 ≤ x + f ∧ DnTo key r.1 r.2.1 ∧ r.2.2 + 1 ≤ r.2.1 ∧ ∀ i, r.2.1 - (r.2.2 + 1) ≤ i → i < r.2.1 → KP key r.1 i = KP key r.1 (r.2.1 - 1)
  | 0, p, x, q, b, _, _, hs, hq, he => ⟨b, Nat.le_refl _, Nat.le_refl _, hs, hq, he⟩
  | f + 1, p, x, q, b, h1, hf, hs, hq, he => by
    have hsz : x ≤ p.size := by rw [b.size]; omega
    refine run_ask b (by omega) ?_
    cases hless : O.blt (KP key p x) (KP key p (x - 1)) with
    | true =>
      rw [if_pos rfl]
      have step1 : ∀ p' : Array Nat, (∀ k, KP key p' k = KP key p k) → DnTo key p' (x + 1) := by
        intro p' hk i j hij hj
        rw [hk, hk]
        by_cases hjx : j < x
        · exact hs i j hij hjx
        · have hj' : j = x := by omega
          subst hj'
          by_cases hi' : i = j
          · subst hi'; exact kle_refl _
          · exact kle_trans (kle_of_klt hless) (hs i (j - 1) (by omega) (by omega))
      by_cases hq0 : q > 0
      · rw [if_pos hq0]
        refine run_mono ?_ (run_desc f _ (x + 1) 0 (b.rev _ _) (by omega) (by omega) (step1 _ (kp_mirror_equal hsz he)) (by omega) fun i h1 h2 => by congr 1; omega)
        rintro r ⟨x1, x2, x3, x4⟩
        exact ⟨x1, by omega, by omega, x4⟩
      · rw [if_neg hq0]
        refine run_mono ?_ (run_desc f _ (x + 1) 0 b (by omega) (by omega) (step1 _ fun _ => rfl) (by omega) fun i h1 h2 => by congr 1; omega)
        rintro r ⟨x1, x2, x3, x4⟩
        exact ⟨x1, by omega, by omega, x4⟩
    | false =>
      rw [if_neg (by simp)]
      refine run_ask b (by omega) ?_
      cases hlarger : O.blt (KP key p (x - 1)) (KP key p x) with
      | true =>
        rw [if_pos rfl]
        exact ⟨b, Nat.le_refl _, by show x ≤ _; omega, hs, hq, he⟩
      | false =>
        rw [if_neg (by simp)]
        have heqx : KP key p x = KP key p (x - 1) := kle_antisymm hlarger hless
        refine run_mono ?_ (run_desc f p (x + 1) (q + 1) b (by omega) (by omega) (fun i j hij hj => ?_) (by omega) fun i h1 h2 => ?_)
        · rintro r ⟨x1, x2, x3, x4⟩
          exact ⟨x1, by omega, by omega, x4⟩
        · by_cases hjx : j < x
          · exact hs i j hij hjx
          · have hj' : j = x := by omega
            subst hj'
            by_cases hi' : i = j
            · subst hi'; exact kle_refl _
            · rw [heqx]; exact hs i (j - 1) (by omega) (by omega)
        · rw [show x + 1 - 1 = x by omega]
          by_cases hix : i = x
          · subst hix; rfl
          · rw [heqx]; exact he i (by omega) (by omega)
theorem run_descPart {p : Array Nat} (b : Bs n p) {m : Nat} (hm : m + 1 ≤ n) (hs : DnTo key p (m + 1)) : Run O n key (PySem.W.kas_descPart m n p) fun r => 1 ≤ r.1 ∧ r.1 ≤ n ∧ Bs n r.2 ∧ UpTo key r.2 r.1 := by
  unfold PySem.W.kas_descPart
  refine run_bind (run_mono ?_ (run_desc (n - (m + 1)) p (m + 1) 0 b (by omega) (by omega) hs (by omega) fun i h1 h2 => by congr 1; omega))
  rintro ⟨p', x, q⟩ ⟨x1, x2, x3, x4, x5, x6⟩
  dsimp only at x1 x2 x3 x4 x5 x6 ⊢
  have hsz : x ≤ p'.size := by rw [x1.size]; omega
  by_cases hq : q > 0
  · rw [if_pos hq]
    refine run_tail3 (x1.rev _ _) (by omega) (by omega) ?_
    intro i j hij hj
    show O.kle (KP key (mirror p' _ _ _) j) (KP key (mirror p' _ _ _) i)
    rw [kp_mirror_equal hsz x6, kp_mirror_equal hsz x6]
    exact x4 i j hij hj
  · rw [if_neg hq]
    exact run_tail3 x1 (by omega) (by omega) x4
theorem run_count {p : Array Nat} (b : Bs n p) (hn : 1 ≤ n) : Run O n key (PySem.W.kas_count n p) fun r => 1 ≤ r.1 ∧ r.1 ≤ n ∧ Bs n r.2 ∧ UpTo key r.2 r.1 := by
  unfold PySem.W.kas_count
  refine run_bind (run_mono ?_ (run_asc b (n - 1) 1 (Nat.le_refl _) (by omega) fun i j hij hj => by have : i = j := (by omega); subst this; exact kle_refl _))
  rintro m ⟨x1, x2, x3, x4⟩
  have hb2 : m ≤ n := by omega
  by_cases hmn : m = n
  · rw [if_pos (by simpa using hmn)]
    exact ⟨x1, hb2, b, x3⟩
  · rw [if_neg (by simpa using hmn)]
    have hlt : O.klt (KP key p m) (KP key p (m - 1)) := x4.resolve_left (by omega)
    by_cases hgt : m > 1
    · rw [if_pos hgt]
      refine run_ask b (by omega) ?_
      cases hrose : O.blt (KP key p 0) (KP key p (m - 1)) with
      | true =>
        rw [if_pos rfl]
        exact ⟨x1, hb2, b, x3⟩
      | false =>
        rw [if_neg (by simp)]
        have hsz : m ≤ p.size := by rw [b.size]; omega
        have hall : ∀ k, 0 ≤ k → k < m → KP key p k = KP key p (m - 1) := by
          intro k _ hk
          have a1 := x3 0 k (by omega) hk
          have a2 := x3 k (m - 1) (by omega) (by omega)
          exact kle_antisymm a2 (kle_trans hrose a1)
        refine run_descPart (b.rev _ _) (by omega) ?_
        intro i j hij hj
        show O.kle (KP key (mirror p _ _ _) j) (KP key (mirror p _ _ _) i)
        rw [kp_mirror_equal hsz hall, kp_mirror_equal hsz hall]
        by_cases hjn : j < m
        · rw [hall i (by omega) (by omega), hall j (by omega) hjn]; exact kle_refl _
        · have hj' : j = m := by omega
          subst hj'
          by_cases hi' : i = j
          · subst hi'; exact kle_refl _
          · rw [hall i (by omega) (by omega)]; exact kle_of_klt hlt
    · rw [if_neg hgt]
      have hm1 : m = 1 := by omega
      subst hm1
      refine run_descPart b (by omega) ?_
      intro i j hij hj
      by_cases hi' : i = j
      · subst hi'; exact kle_refl _
      · have hi0 : i = 0 := by omega
        have hj1 : j = 1 := by omega
        subst hi0; subst hj1
        exact kle_of_klt hlt
theorem run_place {p : Array Nat} (b : Bs n p) {k : Nat} (hk : k < n) (hs : UpTo key p k) : ∀ (f l r : Nat), l ≤ r → r ≤ k → r - l ≤ f → (∀ i, i < l → O.kle (KP key p i) (KP key p k)) → (∀ i, r ≤ i → i < k → O.klt (KP key p k) (KP key p i)) →
    Run O n key (PySem.W.kas_place p k f l r) fun l' => l' ≤ k ∧ (∀ i, i < l' → O.kle (KP key p i) (KP key p k)) ∧ ∀ i, l' ≤ i → i < k → O.klt (KP key p k) (KP key p i)
  | 0, l, r, hlr, hrk, hf, hlo, hhi => by
    have : l = r := by omega
    subst this
    exact ⟨hrk, hlo, hhi⟩
  | f + 1, l, r, hlr, hrk, hf, hlo, hhi => by
    unfold PySem.W.kas_place
    by_cases hge : l ≥ r
    · rw [if_pos hge]
      have : l = r := by omega
      subst this
      exact ⟨hrk, hlo, hhi⟩
    · rw [if_neg hge]
      refine run_ask b (by omega) ?_
      cases hless : O.blt (KP key p k) (KP key p ((l + r) / 2)) with
      | true =>
        rw [if_pos rfl]
        exact run_place b hk hs f l ((l + r) / 2) (by omega) (by omega) (by omega) hlo fun i h1 h2 => klt_of_klt_of_kle hless (hs _ _ h1 h2)
      | false =>
        rw [if_neg (by simp)]
        exact run_place b hk hs f ((l + r) / 2 + 1) r (by omega) (by omega) (by omega) (fun i h1 => kle_trans (hs i ((l + r) / 2) (by omega) (by omega)) (show O.kle _ _ from hless)) hhi
theorem run_bin : ∀ (f : Nat) (p : Array Nat) (k : Nat), Bs n p → k + f = n → UpTo key p k → Run O n key (PySem.W.kas_bin f p k) fun p' => Bs n p' ∧ UpTo key p' n
  | 0, p, k, b, hk, hs => ⟨b, by rw [← hk]; exact hs⟩
  | f + 1, p, k, b, hk, hs => by
    unfold PySem.W.kas_bin
    refine run_bind (run_mono ?_ (run_place b (by omega) hs k 0 k (by omega) (Nat.le_refl _) (by omega) (fun i hi => by omega) fun i h1 h2 => by omega))
    rintro l ⟨hlk, hlo, hhi⟩
    refine run_bin f _ (k + 1) (b.bub _ _) (by omega) ?_
    have hks : k < p.size := by rw [b.size]; omega
    intro i j hij hj
    rw [kp_bubble hks (by omega), kp_bubble hks (by omega), show k - (k - l) = l by omega]
    repeat' split
    all_goals first
      | (exfalso; omega)
      | exact kle_refl _
      | exact hlo _ (by omega)
      | exact kle_of_klt (hhi _ (by omega) (by omega))
      | exact hs _ _ (by omega) (by omega)
theorem run_sort (hn : 1 ≤ n) : Run O n key (PySem.W.kas_sort n) fun p => Bs n p ∧ UpTo key p n := by
  unfold PySem.W.kas_sort
  refine run_bind (run_mono ?_ (run_count ⟨.refl _⟩ hn))
  rintro ⟨m, p⟩ ⟨x1, x2, x3, x4⟩
  dsimp only at x1 x2 x3 x4 ⊢
  by_cases h : m < n
  · rw [if_pos h, show max m 1 = m by omega]
    exact run_bin (n - m) p m x3 (by omega) x4
  · rw [if_neg h]
    exact ⟨x3, by rw [show n = m by omega]; exact x4⟩
end
end FL
set_option Elab.async false
set_option linter.all false
set_option maxRecDepth 100000
set_option maxHeartbeats 4000000
namespace FL
open PySem PySem.Spec PyProof.Rows L2
open PySem.AutoSeq1 (wpAny_loadPart')
open PySem.MeetsSeq PySem.MeetsSeq2 PySem.MeetsSeq3
end FL
set_option Elab.async false
set_option linter.all false
set_option maxRecDepth 100000
set_option maxHeartbeats 4000000
namespace FL
open PySem PySem.Spec PyProof.Rows L2
theorem ksk_zip2 (vs : List Value) : (vs.toArray.zip vs.toArray).toList = vs.zip vs := by simp
section
variable {prog : Program} {w : World} {A : Around} {E : Value → Shared → Prop} {s : Shared}
theorem map_range_getD (vs : List Value) : (List.range vs.length).map (fun i => vs.getD i Value.none) = vs := by
  apply List.ext_getElem
  · simp
  · intro i h1 h2
    simp [h2]
theorem list_sort_T {O : KeyOrd} {key : Nat → O.α} {κ : SortKind} {a : Addr} {vs : List Value} {n : Nat} {P : Fin → Shared → Prop} (ho : s.heap.get? a = some (seqObj "list" vs.toArray n)) (h64 : vs.length < 64)
    (hk : 2 ≤ vs.length → ∀ h', (∀ b o, b ≠ a → s.heap.get? b = some o → h'.get? b = some o) →
      (∀ (Q : SortKind → Shared → Prop) (E : Value → Shared → Prop), Q κ { s with heap := h' } → wpAny (model prog w) A (keyKind' vs.toArray) Q E { s with heap := h' }) ∧
      ∀ i j (Q : Bool → Shared → Prop), i < vs.length → j < vs.length → Q (O.blt (key i) (key j)) { s with heap := h' } → wpAny (model prog w) A (keyLt' κ (vs.getD i .none) (vs.getD j .none)) Q (fun _ _ => False) { s with heap := h' })
    (h : ∀ p : Array Nat, Bs vs.length p → UpTo key p vs.length → P (.done (.ret .none)) { s with heap := sortedHeap s.heap a vs (List.toArray (p.toList.map fun i => vs.getD i .none)) }) :
    wpAny (model prog w) A (Builtin.«list.sort» ⟨[.ref a], []⟩) P E s := by
  rw [list_sort_plain]
  have ha : a < s.heap.objs.size := Heap.lt_size ho
  refine wpAny_bind (listItems_at ho rfl ?_)
  refine wpAny_bind (listUpdate_at ho rfl ?_)
  obtain ⟨e1, ho1⟩ : ∃ e1, (s.heap.update a (Obj.mapSeq fun _ => #[])).get? a = some (seqObj "list" #[] e1) := ⟨_, get?_update_seq ho (fun _ => #[])⟩
  refine wpAny_bind (seqEpoch_at ho1 rfl ?_)
  refine wpAny_bind (wpAny_newTuple ?_)
  refine wpAny_bind (wpAny_newList ?_)
  refine wpAny_holding ?_
  have ho6 : (((s.heap.update a (Obj.mapSeq fun _ => #[])).push (seqObj "tuple" vs.toArray 0)).push (seqObj "list" #[] 0)).get? a = some (seqObj "list" #[] e1) := by
    rw [Heap.get?_push_ne _ _ _ (by rw [size_push', Heap.size_update]; exact Nat.ne_of_lt (Nat.lt_succ_of_lt ha)), Heap.get?_push_ne _ _ _ (by rw [Heap.size_update]; exact Nat.ne_of_lt ha)]
    exact ho1
  have hkeep : ∀ b o, b ≠ a → s.heap.get? b = some o → (((s.heap.update a (Obj.mapSeq fun _ => #[])).push (seqObj "tuple" vs.toArray 0)).push (seqObj "list" #[] 0)).get? b = some o := fun b o hb x =>
    Heap.get?_push_of_some _ (Heap.get?_push_of_some _ (by rw [Heap.get?_update_ne _ _ _ _ hb]; exact x))
  show wpAny (model prog w) A _ P E { s with heap := ((s.heap.update a (Obj.mapSeq fun _ => #[])).push (seqObj "tuple" vs.toArray 0)).push (seqObj "list" #[] 0) }
  dsimp only
  have hsz : vs.toArray.size = vs.length := by simp
  by_cases h2 : vs.toArray.size < 2
  · rw [if_pos h2, if_pos h2]
    refine wpAny_bind (wpAny_pure ?_)
    rw [StateT.run_pure]
    refine wpAny_bind (wpAny_pure ?_)
    dsimp only
    refine wpAny_bind (seqEpoch_at ho6 rfl ?_)
    refine wpAny_bind (listUpdate_at ho6 rfl ?_ (hsz2 := by rw [Array.size_map]; show (pairsOf vs).size ≤ _; rw [pairsOf_size, sizeLine_eq]; omega))
    simp only [bne_self_eq_false, Bool.false_eq_true, if_false]
    have fin := h (List.toArray (List.range vs.length)) ⟨.refl _⟩ (fun i j hij hj => by
      have : i = j := by omega
      subst this; exact KeyOrd.kle_refl _)
    have eo : (vs.toArray.zip vs.toArray).map (·.2) = List.toArray ((List.toArray (List.range vs.length)).toList.map fun i => vs.getD i .none) := by
      apply Array.toList_inj.mp
      rw [Array.toList_map, ksk_zip2]
      have e1 : (vs.zip vs).map (·.2) = vs := List.map_snd_zip (Nat.le_refl _)
      rw [e1]
      exact (map_range_getD vs).symm
    rw [← eo] at fin
    exact wpAny_pure fin
  · rw [if_neg h2, if_neg h2]
    have h2' : 2 ≤ vs.length := by omega
    obtain ⟨k1, k2⟩ := hk h2' _ hkeep
    refine wpAny_bind (k1 _ _ ?_)
    refine wpAny_bind (wpAny_mono (PySem.W.kat_run (vs := vs) (ks := vs) (κ := κ) (Q := fun st' s' => ∃ p : Array Nat, arrOf st' = p.map (PySem.W.kas_item (vs.toArray.zip vs.toArray)) ∧ failedOf st' = none ∧ (Bs vs.length p ∧ UpTo key p vs.length) ∧ s' = { s with heap := ((s.heap.update a (Obj.mapSeq fun _ => #[])).push (seqObj "tuple" vs.toArray 0)).push (seqObj "list" #[] 0) })
      (G := fun p s' => (Bs vs.length p ∧ UpTo key p vs.length) ∧ s' = { s with heap := ((s.heap.update a (Obj.mapSeq fun _ => #[])).push (seqObj "tuple" vs.toArray 0)).push (seqObj "list" #[] 0) })
      rfl h2' h64 (fun p st' s' a1 a2 a3 a4 => ⟨p, a2, a3, a4⟩) (run_wp (fun i j C hi hj hC => k2 i j C hi hj hC) (fun p hp => ⟨hp, rfl⟩) (run_sort (by omega)))) ?_ fun _ _ e => e)
    rintro ⟨⟨⟩, st'⟩ s' ⟨p, har, hf, hp, rfl⟩
    have hout := PySem.W.kat_snds rfl har
    dsimp only
    rw [hout]
    refine wpAny_bind (seqEpoch_at ho6 rfl ?_)
    refine wpAny_bind (listUpdate_at ho6 rfl ?_ (hsz2 := by rw [List.size_toArray, List.length_map, Array.length_toList, hp.1.size, sizeLine_eq]; omega))
    rw [hf]
    simp only [bne_self_eq_false, Bool.false_eq_true, if_false]
    exact wpAny_pure (h p hp.1 hp.2)
theorem sorted_T {O : KeyOrd} {key : Nat → O.α} {κ : SortKind} {l : Addr} {vs : List Value} {Q : Value → Shared → Prop} (hl : s.heap.IsList l vs.toArray) (h64 : vs.length < 64)
    (hk : 2 ≤ vs.length → ∀ h', (∀ b o, s.heap.get? b = some o → h'.get? b = some o) →
      (∀ (Q : SortKind → Shared → Prop) (E : Value → Shared → Prop), Q κ { s with heap := h' } → wpAny (model prog w) A.in1.in1 (keyKind' vs.toArray) Q E { s with heap := h' }) ∧
      ∀ i j (Q : Bool → Shared → Prop), i < vs.length → j < vs.length → Q (O.blt (key i) (key j)) { s with heap := h' } → wpAny (model prog w) A.in1.in1 (keyLt' κ (vs.getD i .none) (vs.getD j .none)) Q (fun _ _ => False) { s with heap := h' })
    (h : ∀ p : Array Nat, Bs vs.length p → UpTo key p vs.length → Q (.ref (s.heap.objs.size + 1)) { s with heap := sortedAll s.heap vs (List.toArray (p.toList.map fun i => vs.getD i .none)) }) :
    wpAny (model prog w) A (call (.builtin "sorted") [.ref l]) Q E s := by
  refine Calls.call_function_entry kind_sorted plain_sorted entry_sorted (args_sorted1 _) ?_
  unfold Builtin.«sorted»
  refine wpAny_bind (m := checkCount "sorted" 1 1 _) (wpAny_pure ?_)
  refine wpAny_bind (collect_list hl ?_)
  refine wpAny_bind (wpAny_newList ?_)
  have hsz : ((s.heap.push (seqObj "list" #[] 0)).update s.heap.objs.size (Obj.mapSeq (· ++ vs.toArray))).objs.size = s.heap.objs.size + 1 := by
    rw [Heap.size_update, size_push']
  have hoL : (((s.heap.push (seqObj "list" #[] 0)).update s.heap.objs.size (Obj.mapSeq (· ++ vs.toArray))).push (seqObj "list" vs.toArray 0)).get? (s.heap.objs.size + 1) = some (seqObj "list" vs.toArray 0) := by
    rw [← hsz]; exact Heap.get?_push_size _ rfl
  show wpAny _ _ _ _ _ { s with heap := ((s.heap.push (seqObj "list" #[] 0)).update s.heap.objs.size (Obj.mapSeq (· ++ vs.toArray))).push (seqObj "list" vs.toArray 0) }
  rw [hsz]
  have hkp : ∀ b o, s.heap.get? b = some o → b ≠ s.heap.objs.size + 1 ∧ (((s.heap.push (seqObj "list" #[] 0)).update s.heap.objs.size (Obj.mapSeq (· ++ vs.toArray))).push (seqObj "list" vs.toArray 0)).get? b = some o := fun b o x => by
    have hlt : b < s.heap.objs.size := Heap.lt_size x
    refine ⟨Nat.ne_of_lt (Nat.lt_succ_of_lt hlt), ?_⟩
    rw [Heap.get?_push_ne _ _ _ (by rw [hsz]; exact Nat.ne_of_lt (Nat.lt_succ_of_lt hlt)), Heap.get?_update_ne _ _ _ _ (Nat.ne_of_lt hlt), Heap.get?_push_ne _ _ _ (Nat.ne_of_lt hlt)]
    exact x
  refine wpAny_bind (wpAny_holding (wpAny_call_entry slot_list_sort ⟨_, hoL, rfl⟩ entry_list_sort (list_sort_T (key := key) hoL h64 (fun h2 h' hh => hk h2 h' fun b o x => hh b o (hkp b o x).1 (hkp b o x).2) fun p a1 a2 => ⟨_, rfl, ?_⟩) (args_list_sort _)))
  exact wpAny_pure ⟨_, rfl, h p a1 a2⟩
end
end FL
set_option Elab.async false
set_option linter.all false
set_option maxRecDepth 100000
set_option maxHeartbeats 4000000
namespace FL
open PySem PySem.Spec PyProof.Rows L2
section
variable {X : Cx} {pins : List (Addr × Obj)} {σ : St} {H : Hp} {s : Shared} {A : Around}
end
end FL
set_option Elab.async false
set_option linter.all false
set_option maxRecDepth 100000
set_option maxHeartbeats 4000000
namespace FL
open PySem PySem.Spec PyProof.Rows L2
section
variable {X : Cx} {pins : List (Addr × Obj)} {σ : St} {H : Hp} {s : Shared}
end
section
variable {X : Cx} {e : Expr} {pos : Pos} {kk : Nat}
end
end FL
set_option Elab.async false
set_option linter.all false
set_option maxRecDepth 100000
set_option maxHeartbeats 4000000
namespace FL
open PySem PySem.Spec PyProof.Rows L2
section
variable {α : Type} {P : List α → Prop}
theorem all0 (k : P []) : ∀ us : List α, us.length = 0 → P us
  | [], _ => k
theorem all1 (k : ∀ a, P [a]) : ∀ us : List α, us.length = 1 → P us
  | a :: us, h => all0 (P := fun us => P (a :: us)) (k a) us (Nat.succ.inj h)
theorem all2 (k : ∀ a b, P [a, b]) : ∀ us : List α, us.length = 2 → P us
  | a :: us, h => all1 (P := fun us => P (a :: us)) (k a) us (Nat.succ.inj h)
theorem all3 (k : ∀ a b c, P [a, b, c]) : ∀ us : List α, us.length = 3 → P us
  | a :: us, h => all2 (P := fun us => P (a :: us)) (k a) us (Nat.succ.inj h)
end
section
variable {X : Cx} {pos : Pos} {kk : Nat}
end
end FL
set_option Elab.async false
set_option linter.all false
set_option maxRecDepth 100000
set_option maxHeartbeats 4000000
namespace FL
open PySem PySem.Spec PyProof.Rows L2
section
variable {prog : Program} {w : World} {A : Around} {E : Value → Shared → Prop} {s : Shared}
end
end FL
set_option Elab.async false
set_option linter.all false
set_option maxRecDepth 100000
set_option maxHeartbeats 4000000
namespace FL
open PySem PySem.Spec PyProof.Rows L2
end FL
set_option Elab.async false
set_option linter.all false
set_option maxRecDepth 100000
set_option maxHeartbeats 4000000
namespace FL
open PySem PySem.Spec PyProof.Rows L2
section
variable {K : PySem.W.Frag} {H₀ Hf₀ : Hp} {σ : St} {ρ : Rho} {H Hf : Hp}
end
section
variable {X : Cx} {pos : Pos} {body : List Stmt} {γ : FG} {B : FS}
end
end FL
set_option Elab.async false
set_option linter.all false
set_option maxRecDepth 100000
set_option maxHeartbeats 4000000
namespace FL
open PySem PySem.Spec PyProof.Rows L2
section
variable {X : Cx} {pos : Pos} {kk : Nat}
end
end FL
set_option Elab.async false
set_option linter.all false
set_option maxRecDepth 100000
set_option maxHeartbeats 4000000
namespace FL
open PySem PySem.Spec PyProof.Rows L2
section
variable {X : Cx}
variable {a b c e : Expr} {f g h : FE} {pos p2 : Pos}
end
end FL
set_option Elab.async false
set_option linter.all false
set_option maxRecDepth 100000
set_option maxHeartbeats 4000000
namespace FL
open PySem PySem.Spec PyProof.Rows L2
section
variable {X : Cx} {e : Expr} {f : FE} {pos : Pos} {tg : Expr}
end
section
variable {X : Cx} {o e : Expr} {f g : FE} {kk : Nat}
end
section
variable {X : Cx}
end
end FL
set_option Elab.async false
set_option linter.all false
set_option maxRecDepth 100000
set_option maxHeartbeats 4000000
namespace FL
open PySem PySem.Spec PyProof.Rows L2
def jn (out : Str) : List Str → Str
  | [] => out
  | z :: zs => jn (out ++ z) zs
theorem jn_len : ∀ (zs : List Str) (out : Str), out.length ≤ (jn out zs).length
  | [], _ => Nat.le_refl _
  | z :: zs, out => by
    have h := jn_len zs (out ++ z)
    rw [strLen_append] at h
    show _ ≤ (jn (out ++ z) zs).length
    omega
abbrev FJ := Rho → Option (List Str)
def tJ (K : PySem.W.Frag) (fj : FJ) (out : Str) : TE := fun σ H Q => ∃ H₀ Hf₀ ρ Hf zs, Rep K H₀ Hf₀ σ ρ H Hf ∧ fj ρ = some zs ∧ (jn out zs).length ≤ sizeLine ∧
  ∀ H' Hf', Rep K H₀ Hf₀ σ ρ H' Hf' → Same H H' → Same Hf Hf' → Q (.str (jn out zs)) H'
def DJ (X : Cx) (es : List Expr) (fj : FJ) : Prop :=
  ∀ (out : Str) (pins : List (Addr × Obj)) (s : Shared) (σ : St) (H : Hp) (Q : VK), Inv X pins σ H s → tJ X.K fj out σ H Q → wpAny (model X.prog X.w) X.A (joinParts out (evalEach es X.env)) (EP X pins σ Q) X.xe s
section
variable {X : Cx} {e : Expr} {es : List Expr} {f : FE} {fj : FJ} {pos p2 : Pos}
def nilJ : FJ := fun _ => some []
def conJ (z : Str) (fj : FJ) : FJ := fun ρ => (fj ρ).bind fun zs => some (z :: zs)
def fmtD : D → Option Str
  | .int i => if i.natAbs.log2 < 1920 then some (toString i) else none
  | .str z => if z.length ≤ sizeLine then some z else none
  | _ => none
def fmtJ (f : FE) (fj : FJ) : FJ := fun ρ => (f ρ).bind fun d => (fmtD d).bind fun z => (fj ρ).bind fun zs => some (z :: zs)
theorem dj_nil : DJ X [] nilJ := by
  intro out pins s σ H Q I h
  obtain ⟨H₀, Hf₀, ρ, Hf, zs, R, q, hz, k⟩ := h
  cases q
  exact joinParts_nilE (joinParts_nil ⟨.str out, H, I.tok _, ⟨_, rfl⟩, k _ _ R sameR sameR⟩ hz)
theorem dj_con {z : Str} {j : Nat} (h : DJ X es fj) : DJ X (.Constant (.str z) j p2 :: es) (conJ z fj) := by
  intro out pins s σ H Q I hh
  obtain ⟨H₀, Hf₀, ρ, Hf, zs, R, q, hz, k⟩ := hh
  cases e : fj ρ with
  | none => unfold conJ at q; rw [e] at q; cases q
  | some zs' =>
    unfold conJ at q
    rw [e] at q
    cases q
    have hz' : (jn (out ++ z) zs').length ≤ sizeLine := hz
    refine joinParts_consE (joinParts_cons (Calls.Constant_str ?_))
    exact ⟨Nat.le_trans (jn_len _ _) hz', h (out ++ z) pins _ σ H Q (I.tok _) ⟨H₀, Hf₀, ρ, Hf, zs', R, e, hz', k⟩⟩
theorem dj_fmt (he : DR X e f) (h : DJ X es fj) : DJ X (.FormattedValue e (-1) none p2 :: es) (fmtJ f fj) := by
  intro out pins s σ H Q I hh
  obtain ⟨H₀, Hf₀, ρ, Hf, zs, R, q, hz, k⟩ := hh
  obtain ⟨d, e1, e2⟩ := bindV_some q
  cases e3 : fmtD d with
  | none => rw [e3] at e2; cases e2
  | some z =>
    rw [e3] at e2
    cases e4 : fj ρ with
    | none => rw [e4] at e2; cases e2
    | some zs' =>
      rw [e4] at e2
      cases e2
      have hz' : (jn (out ++ z) zs').length ≤ sizeLine := hz
      refine joinParts_consE (joinParts_cons (FormattedValue_plain (thn (he pins s σ H (fun v H1 => ∃ Hf1, Rep X.K H₀ Hf₀ σ ρ H1 Hf1 ∧ Same H H1 ∧ Same Hf Hf1 ∧ HasR X.K Hf1 σ ρ d v) I ⟨H₀, Hf₀, ρ, Hf, d, R, e1, fun v H1 Hf1 R1 s1 t1 h1 => ⟨Hf1, R1, s1, t1, h1⟩⟩) fun u s1 ⟨v, H1, I1, r, Hf1, R1, s1', t1, h1⟩ => ?_)))
      have fin : ∀ (t' : Tok) (tk : Nat), (out ++ z).length ≤ sizeLine ∧ wpAny (model X.prog X.w) X.A (joinParts (out ++ z) (evalEach es X.env)) (EP X pins σ Q) X.xe { s1 with toks := tk } := fun t' tk =>
        ⟨Nat.le_trans (jn_len _ _) hz', h (out ++ z) pins _ σ H1 Q (I1.tok _) ⟨H₀, Hf₀, ρ, Hf1, zs', R1, e4, hz', fun H2 Hf2 R2 s2 t2 => k _ _ R2 (s1'.trans s2) (t1.trans t2)⟩⟩
      unfold fmtD at e3
      split at e3
      · split at e3
        · cases e3
          cases h1.int
          obtain ⟨t, rfl⟩ := r
          exact formatField_int_small (by assumption) (fin (s1.toks + 1) _)
        · cases e3
      · split at e3
        · cases e3
          cases h1.str
          obtain ⟨t, rfl⟩ := r
          exact formatField_str fin (by assumption)
        · cases e3
      · cases e3
def joinF (fj : FJ) : FE := fun ρ => (fj ρ).bind fun zs => if (jn Str.empty zs).length ≤ sizeLine then some (.str (jn Str.empty zs)) else none
theorem d_join {v₁ v₂ : Expr} (h : DJ X (v₁ :: v₂ :: es) fj) (hs : evalEach (v₁ :: v₂ :: es) X.env = eval v₁ X.env :: eval v₂ X.env :: evalEach es X.env := by rfl) : DE X (.JoinedStr (v₁ :: v₂ :: es) pos) (joinF fj) := by
  intro pins s σ H Q I hh
  obtain ⟨H₀, Hf₀, ρ, Hf, d, R, q, k⟩ := hh
  cases e : fj ρ with
  | none => unfold joinF at q; rw [e] at q; cases q
  | some zs =>
    unfold joinF at q
    rw [e] at q
    have q : (if (jn Str.empty zs).length ≤ sizeLine then some (D.str (jn Str.empty zs)) else none) = some d := q
    split at q
    · cases q
      refine JoinedStr_many ?_
      rw [← hs]
      exact h Str.empty pins s σ H Q I ⟨H₀, Hf₀, ρ, Hf, zs, R, e, by assumption, fun H' Hf' R' s' t' => k _ _ _ R' s' t' (Has.str_iff.mpr rfl)⟩
    · cases q
def setIF (i : Nat) (g f : FE) : FS := fun ρ => (f ρ).bind fun y => (g ρ).bind fun x => match ρ[i]?, x with
  | some (.ol ds), .int k => (ixN ds.length k).bind fun j => some (.nx (ρ.set i (.ol (ds.set j y))))
  | _, _ => none
theorem ds_setI {ix : Expr} {g : FE} {x : Str} {p1 tpos : Pos} (i : Nat) (he : DE X e f) (hg : DE X ix g) (hN : X.N[i]? = some x := by rfl) (hv : Vis X.env.scope x := by first | exact Or.inl rfl | exact Or.inr (Or.inl rfl) | exact Or.inr (Or.inr rfl))
    (hd : (x == ("__debug__" : Str)) = false := by decide) (hcd : (x == ("__classdict__" : Str)) = false := by decide)
    (ha : ∀ v, assign (.Subscript (.Name x p1) ix tpos) X.env v = (do
      let ov ← holding [v] (eval (.Name x p1) X.env)
      let iv ← holding [v, ov] (eval ix X.env)
      standAt tpos
      holding [v, ov, iv] (setItem ov iv v)
      release [v, ov, iv] []) := by intro _; rfl)
    (hs : swapsWithSole [.Subscript (.Name x p1) ix tpos] e pos.line X.env = pure false := by rfl) (hw : swappedStores [.Subscript (.Name x p1) ix tpos] e X.env = pure none := by rfl)
    (h1 : (assignEach [.Subscript (.Name x p1) ix tpos] X.env).map (·.2) = [assign (.Subscript (.Name x p1) ix tpos) X.env] := by rfl) :
    DS X (.Assign [.Subscript (.Name x p1) ix tpos] e pos) (setIF i g f) :=
  ps_imp (ps_asg he (pg_sub (pe_var hN hv hd hcd) hg set_list ha) hs hw h1) fun D' σ H ⟨H₀, Hf₀, ρ, Hf, o, R, q, k⟩ => by
    obtain ⟨y, e1, e2⟩ := bindV_some q
    obtain ⟨z, e3, e4⟩ := bindV_some e2
    split at e4
    · rename_i ds kk el
      cases hj : ixN ds.length kk with
      | none => rw [hj] at e4; cases e4
      | some j =>
        rw [hj] at e4
        cases e4
        refine ⟨H₀, Hf₀, ρ, Hf, y, R, e1, fun v H1 Hf1 R1 s1 t1 h1 => ?_⟩
        obtain ⟨a, p1, ⟨xs, p2, p3⟩, p4, p5⟩ := R1.ow i _ el rfl
        refine ⟨_, p1, H₀, Hf₀, ρ, Hf1, _, R1, e3, fun w H2 Hf2 R2 s2 t2 h2 => ?_⟩
        cases Has.int_iff.mp h2
        obtain ⟨a', r1, ⟨ys, r2, r3⟩, r4, r5⟩ := R2.ow i _ el rfl
        rw [p1] at r1; cases r1
        exact ⟨a, ys, kk, j, rfl, rfl, r2, by rw [r3.length]; exact hj, k _ _ _ (R2.updOwn el rfl p1 rfl ⟨_, upd_same, r3.set (h1.mono t2) j⟩) (t1.trans t2)⟩
    · cases e4
end
@[simp] theorem s_joinF {fj : FJ} {ρ : Rho} : joinF fj ρ = (fj ρ).bind fun zs => if (jn Str.empty zs).length ≤ sizeLine then some (.str (jn Str.empty zs)) else none := rfl
@[simp] theorem s_nilJ {ρ : Rho} : nilJ ρ = some [] := rfl
@[simp] theorem s_conJ {z : Str} {fj : FJ} {ρ : Rho} : conJ z fj ρ = (fj ρ).bind fun zs => some (z :: zs) := rfl
@[simp] theorem s_fmtJ {f : FE} {fj : FJ} {ρ : Rho} : fmtJ f fj ρ = (f ρ).bind fun d => (fmtD d).bind fun z => (fj ρ).bind fun zs => some (z :: zs) := rfl
@[simp] theorem s_setIF {i : Nat} {g f : FE} {ρ : Rho} : setIF i g f ρ = (f ρ).bind fun y => (g ρ).bind fun x => match ρ[i]?, x with
  | some (.ol ds), .int k => (ixN ds.length k).bind fun j => some (.nx (ρ.set i (.ol (ds.set j y))))
  | _, _ => none := rfl
end FL
set_option Elab.async false
set_option linter.all false
set_option maxRecDepth 100000
set_option maxHeartbeats 4000000
namespace FL
open PySem PySem.Spec PyProof.Rows L2
section
variable {K : PySem.W.Frag} {C p dx l : Addr} {H Hf H' Hf' H2 Hf2 : Hp} {hd wd : D} {ms : List D}
end
section
variable (gA gT gI gS : List D → Option D)
variable (gL : List D → Option D)
end
end FL
set_option Elab.async false
set_option linter.all false
set_option maxRecDepth 100000
set_option maxHeartbeats 4000000
namespace FL
open PySem PySem.Spec PyProof.Rows L2
end FL
set_option Elab.async false
set_option linter.all false
set_option maxRecDepth 100000
set_option maxHeartbeats 4000000
namespace FL
open PySem PySem.Spec PyProof.Rows L2
section
variable {X : Cx} {pins : List (Addr × Obj)} {σ : St} {H : Hp} {s : Shared} {e : Value}
end
section
variable {X : Cx} {pins : List (Addr × Obj)} {σ : St} {H : Hp} {s : Shared}
end
end FL
set_option Elab.async false
set_option linter.all false
set_option maxRecDepth 100000
set_option maxHeartbeats 4000000
namespace FL
open PySem PySem.Spec PySem.Calls PyProof.Rows L2
section
variable {prog : Program} {w : World} {A : Around} {E : Value → Shared → Prop} {s : Shared} {K : PySem.W.Frag} {a C : Addr}
end
end FL
set_option Elab.async false
set_option linter.all false
set_option maxRecDepth 100000
set_option maxHeartbeats 4000000
namespace FL
open PySem PySem.Spec PyProof.Rows L2
inductive OutX where
  | o (x : Out)
  | ex (n : Str)
abbrev FSX := Rho → Option OutX
section
variable {X : Cx} {E : XK} {c tg iter : Expr} {fi : FA} {ft : FT} {pos : Pos} {st : Stmt} {sts rest body : List Stmt} {F : FS} {G G1 G2 B : FSX} {γ : FG}
end
inductive RX where
  | v (d : D)
  | ex (n : Str)
section
variable {mg : Str → Option Value} {K : PySem.W.Frag} {n : Nat} {g : List D → Option RX} {vs : List V} {H Hf : Hp} {Q : VK} {E : XK} {ds : List D}
end
end FL
set_option Elab.async false
set_option linter.all false
set_option maxRecDepth 100000
set_option maxHeartbeats 4000000
namespace FL
open PySem PySem.Spec PyProof.Rows L2
section
variable {X : Cx} {o e : Expr} {f g : FE} {kk : Nat}
end
section
variable {X : Cx} {o e : Expr} {f g : FE} {kk : Nat}
end
end FL
set_option Elab.async false
set_option linter.all false
set_option maxRecDepth 100000
set_option maxHeartbeats 4000000
namespace FL
open PySem PySem.Spec PyProof.Rows L2
section
variable {prog : Program} {w : World} {A : Around} {E : Value → Shared → Prop} {s : Shared} {l : Addr} {xs : Array (Int × Tok)}
end
section
variable {X : Cx}
end
end FL
set_option Elab.async false
set_option linter.all false
set_option maxRecDepth 100000
set_option maxHeartbeats 4000000
namespace FL
open PySem PySem.Spec PyProof.Rows L2
section
variable {X : Cx} {kk : Nat}
end
end FL
set_option Elab.async false
set_option linter.all false
set_option maxRecDepth 100000
set_option maxHeartbeats 4000000
namespace FL
open PySem PySem.Spec PyProof.Rows L2
theorem Rep.dropAt {K : PySem.W.Frag} {H₀ Hf₀ H Hf : Hp} {σ : St} {ρ : Rho} (R : Rep K H₀ Hf₀ σ ρ H Hf) (i : Nat) (x : Option V) : Rep K H₀ Hf₀ (σ.set i x) (ρ.set i .no) H Hf := by
  have no : ∀ (j : Nat) (sl : Slot), (ρ.set i .no)[j]? = some sl → sl ≠ .no → i ≠ j ∧ ρ[j]? = some sl := fun j sl e hs => by
    by_cases c : i = j
    · subst c
      rw [List.getElem?_set] at e
      rw [if_pos rfl] at e
      split at e
      · cases e; exact absurd rfl hs
      · cases e
    · rw [List.getElem?_set_ne c] at e
      exact ⟨c, e⟩
  have nown : ∀ sl : Slot, sl.own = true → sl ≠ .no := fun sl o z => by subst z; cases o
  refine ⟨R.s0, R.sf, R.nf, R.f0, by simp [R.len], fun j d e => ?_, fun j sl e o => ?_, fun j j' sl sl' a e o e' o' q q' => ?_⟩
  · obtain ⟨c, e⟩ := no j _ e (by simp)
    rw [List.getElem?_set_ne c]
    exact R.fr j d e
  · obtain ⟨c, e⟩ := no j _ e (nown sl o)
    rw [List.getElem?_set_ne c]
    exact R.ow j sl e o
  · obtain ⟨c, e⟩ := no j _ e (nown sl o)
    obtain ⟨c', e'⟩ := no j' _ e' (nown sl' o')
    rw [List.getElem?_set_ne c] at q
    rw [List.getElem?_set_ne c'] at q'
    exact R.inj j j' sl sl' a e o e' o' q q'
end FL
set_option Elab.async false
set_option linter.all false
set_option maxRecDepth 100000
set_option maxHeartbeats 4000000
namespace FL
open PySem PySem.Spec PyProof.Rows L2
section
variable {X : Cx} {pins : List (Addr × Obj)} {σ : St} {H : Hp} {s : Shared} {A : Around}
end
theorem intsOf_some : ∀ {ds : List D} {r : List Int}, intsOf ds = some r → ds = r.map D.int
  | [], r, h => by cases h; rfl
  | d :: ds, r, h => by
    cases d with
    | int b =>
      obtain ⟨r', e, rfl⟩ := Option.map_eq_some_iff.mp (show (intsOf ds).map (b :: ·) = some r from h)
      rw [intsOf_some e]
      rfl
    | _ => cases h
section
variable {X : Cx} {e : Expr} {pos : Pos}
end
end FL
set_option Elab.async false
set_option linter.all false
set_option maxRecDepth 100000
set_option maxHeartbeats 4000000
namespace FL
open PySem PySem.Spec PyProof.Rows L2
theorem inv_thaw {X : Cx} {pins : List (Addr × Obj)} {σ : St} {H : Hp} {s : Shared} {l : Addr} {o : Obj} {xs : List V} (I : Inv X pins σ H s) (h : H l = some (.frz o (.lst xs))) (h0 : X.H₀ l = none) : Inv X pins σ (upd H l (.lst xs)) s := by
  have ne : ∀ b, H b = none → b ≠ l := fun b e z => by subst z; rw [h] at e; cases e
  have ne0 : ∀ b u, X.H₀ b = some u → b ≠ l := fun b u e z => by subst z; rw [h0] at e; cases e
  refine ⟨I.ok, I.os, I.bare, ⟨I.base.keep, I.base.slot, fun b ob q n hx => ?_, I.base.there, fun b ys q => ?_, fun b ob u q => ?_, fun b ps q => ?_⟩, I.loc, I.cell, ?_, fun x c e => ?_, fun p hp => ?_, fun b ob q => ?_, I.len⟩
  · have z := I.base.free b ob q n hx
    rw [upd_ne (ne b z)]; exact z
  · rw [upd_ne (ne0 b _ q)]; exact I.base.tups b ys q
  · rw [upd_ne (ne0 b _ q)]; exact I.base.frzs b ob u q
  · obtain ⟨m, e⟩ := I.base.tbls b ps q
    exact ⟨m, by rw [upd_ne (ne0 b _ q)]; exact e⟩
  · rw [upd_ne (ne _ I.free)]; exact I.free
  · rw [upd_ne (ne _ (I.freeC x c e))]; exact I.freeC x c e
  · obtain ⟨e, n, r⟩ := I.pin p hp
    exact ⟨e, by rw [upd_ne (ne _ n)]; exact n, r⟩
  · have st : ∀ u, ObjOk X.prog X.w H s.heap b u → ObjOk X.prog X.w (upd H l (.lst xs)) s.heap b u := fun u x => by
      refine x.stay (fun _ _ _ e => e) (fun c e => ?_) fun c ys e => ?_
      · rw [upd_ne (fun z => by subst z; rw [h] at e; cases e)]; exact e
      · rw [upd_ne (fun z => by subst z; rw [h] at e; cases e)]; exact e
    by_cases z : b = l
    · subst z
      rw [upd_same] at q
      cases q
      obtain ⟨_, x⟩ := I.hok b _ h
      exact st _ x
    · rw [upd_ne z] at q
      exact st _ (I.hok b ob q)
theorem ps_thaw {X : Cx} {st : Stmt} {t : TS} (h : PS X st t) : PS X st (fun D σ H => t D σ H ∨ ∃ l o xs, H l = some (.frz o (.lst xs)) ∧ X.H₀ l = none ∧ t D σ (upd H l (.lst xs))) := by
  intro pins s σ H D I hw
  rcases hw with q | ⟨l, o, xs, e, e0, q⟩
  · exact h pins s σ H D I q
  · exact h pins s σ _ D (inv_thaw I e e0) q
def lstObj (o : Obj) : Bool := match o.cls with
  | .type t => t == "list"
  | _ => false
def noLst (K : PySem.W.Frag) : Bool := K.all fun p => !lstObj p.2
theorem noLst_not {K : PySem.W.Frag} (h : noLst K = true) {a : Addr} {o : Obj} (e : K.lookup a = some o) : o.cls ≠ .type "list" := by
  have : ∀ l : List (Addr × Obj), (l.all fun p => !lstObj p.2) = true → l.lookup a = some o → o.cls ≠ .type "list" := by
    intro l
    induction l with
    | nil => intro _ e; cases e
    | cons p l ih =>
      intro hl e
      rw [List.all_cons, Bool.and_eq_true] at hl
      obtain ⟨b, q⟩ := p
      rw [List.lookup_cons] at e
      split at e
      · cases e
        intro z
        have := hl.1
        unfold lstObj at this
        rw [z] at this
        cases this
      · exact ih hl.2 e
  exact this K h e
theorem seq_split {F G : FS} {ρ ρ' : Rho} (h : seqF F G ρ = some (.nx ρ')) : ∃ ρ1, F ρ = some (.nx ρ1) ∧ G ρ1 = some (.nx ρ') := by
  rw [s_seqF] at h
  obtain ⟨o, e, h⟩ := Option.bind_eq_some_iff.mp h
  cases o with
  | nx ρ1 => exact ⟨ρ1, e, h⟩
  | rt d => cases h
  | bk _ => cases h
  | ct _ => cases h
end FL
set_option Elab.async false
set_option linter.all false
set_option maxRecDepth 100000
set_option maxHeartbeats 4000000
namespace FL
open PySem PySem.Spec PyProof.Rows L2
open PySem.AutoSeq1 (wpAny_loadPart')
theorem list_extend_any (l : Addr) (items : Array Value) (n : Nat) (b : Addr) (items2 : Array Value) (n2 : Nat) (sl2 : Array (Option Value)) (hc0 : ¬(!items.isEmpty && Builtin.List.listTooLong (items.size + items2.size)) = true) (hc1 : items.size ≤ sizeLine) (hs2 : items.size + items2.size ≤ sizeLine + 1) :
    Meets (Builtin.«list.extend» ⟨[.ref l, .ref b], []⟩) (fun _ R s => s.heap.get? l = some { cls := .type "list", dict := none, data := .seq items n, slots := #[] } ∧ s.heap.get? b = some { cls := .type "list", dict := none, data := .seq items2 n2, slots := sl2 } ∧ R (.ok (.ret Value.none)) { s with heap := s.heap.update l (Obj.mapSeq fun x => x ++ items2), toks := s.toks }) :=
  .of_wp fun prog w A R s h => by
    obtain ⟨hp, g, d, tk, os⟩ := s; obtain ⟨hl, hb, h⟩ := h
    have f2 := AutoSeq1.sub_tuple_tuple
    have f3 := AutoSeq1.sub_list_list
    have f4 := AutoSeq1.sub_tuple_list
    have f5 := AutoSeq1.sub_list_tuple
    have hz' : (items ++ items2).size ≤ sizeLine + 1 := by rw [Array.size_append]; exact hs2
    wp_walk using (wpAny_updateSeq hl rfl (hz := hc1) (_hz' := hz')), wpAny_loadPart' hl, wpAny_loadPart' hb
    exact ⟨_, rfl, h⟩
section
variable {X : Cx} {e : Expr} {f g : FE} {pos : Pos}
def rExtendG (K : PySem.W.Frag) : V → List V → Hp → VK → Prop := fun x vs H Q => ∃ l b xs zs, x = .ref l ∧ vs = [.ref b] ∧ H l = some (.lst xs) ∧ SqL K H b zs ∧ xs.length + zs.length ≤ sizeLine ∧ Q .non (upd H l (.lst (xs ++ zs)))
theorem mt_extendG : MtM X "list.extend" (rExtendG X.K) := by
  intro pins s σ H x vs v us Q I rx rv h
  obtain ⟨l, b, xs, zs, rfl, rfl, hH, hB, hz, q⟩ := h
  cases rx
  obtain ⟨u, rfl, ru⟩ := rv.one
  cases ru
  obtain ⟨z, its, n, r, hl, e⟩ := I.lstM hH
  obtain ⟨its2, r2, ⟨o2, n2, e2, c2, d2, s2⟩, z2⟩ := I.list hB
  have hl2 := r2.length
  obtain ⟨cls2, dict2, data2, sl2⟩ := o2
  dsimp only at c2 d2 s2
  subst c2 d2 s2
  have hsz : its.toArray.size + its2.toArray.size ≤ sizeLine := by rw [List.size_toArray, List.size_toArray]; omega
  have hlong : ¬ (!its.toArray.isEmpty && Builtin.List.listTooLong (its.toArray.size + its2.toArray.size)) = true := by
    rw [notLongL hsz, Bool.and_false]
    exact Bool.false_ne_true
  refine call_meets F.slot_list_extend ⟨_, e, rfl⟩ F.entry_list_extend (F.args_list_extend_2 _ _)
    (list_extend_any l its.toArray n b its2.toArray n2 sl2 hlong (by rw [List.size_toArray]; omega) (by omega)) ⟨e, e2, ?_⟩
  refine ⟨.non, _, I.lset (its' := its ++ its2) hH e (by simp) (r.append r2) ?_, rfl, q⟩
  rw [List.length_append]
  omega
def extendF (i : Nat) (f : FE) : FS := fun ρ => (f ρ).bind fun d => match d, ρ[i]? with
  | .lst zs, some (.ol ds) => if ds.length + zs.length ≤ sizeLine then some (.nx (ρ.set i (.ol (ds ++ zs)))) else none
  | _, _ => none
@[simp] theorem s_extendF {i : Nat} {ρ : Rho} : extendF i f ρ = (f ρ).bind fun d => match d, ρ[i]? with
  | .lst zs, some (.ol ds) => if ds.length + zs.length ≤ sizeLine then some (.nx (ρ.set i (.ol (ds ++ zs)))) else none
  | _, _ => none := rfl
theorem ds_extend {x : Str} {p1 apos cpos pos : Pos} (i : Nat) (he : DE X e f) (hN : X.N[i]? = some x := by rfl) (hv : Vis X.env.scope x := by first | exact Or.inl rfl | exact Or.inr (Or.inl rfl) | exact Or.inr (Or.inr rfl))
    (hd : (x == ("__debug__" : Str)) = false := by decide) (hcd : (x == ("__classdict__" : Str)) = false := by decide)
    (hbase : attributeBase (.Name x p1) "extend" X.env (eval (.Name x p1) X.env) = eval (.Name x p1) X.env := by rfl)
    (hfew : ((backTo cpos (starEach [e] X.env)).all (fun x => !x.1) && (backToKw cpos (keywordEach [] X.env)).all (fun x => x.1.isSome)
      && decide (([e] : List Expr).length + ([] : List Keyword).length + (if ([] : List Keyword).isEmpty then 0 else 1) < 30)) = true := by rfl)
    (hline : (apos.endLine == cpos.line) = true := by rfl) (hst : starEach [e] X.env = (false, eval e X.env) :: starEach [] X.env := by rfl) (hplain : (backTo cpos (starEach [] X.env)).any (·.1) = false := by rfl)
    (hs : swapsWith (.Call (.Attribute (.Name x p1) "extend" apos) [e] [] cpos) none pos.line X.env = pure false := by rfl) :
    DS X (.Expr (.Call (.Attribute (.Name x p1) "extend" apos) [e] [] cpos) pos) (extendF i f) :=
  ps_imp (ps_expr (pe_bm PySem.F.plainAttrs_list PySem.F.slot_list_extend PySem.F.type_list_extend mt_extendG (pe_var hN hv hd hcd) (pa_cons he pa_nil hst) hbase hfew hline hst hplain) hs) fun D' σ H zz => by
    obtain ⟨H₀, Hf₀, ρ, Hf, o, R, q, k⟩ := zz
    obtain ⟨d, e1, e2⟩ := bindV_some q
    split at e2
    · rename_i ds' zs ds el
      split at e2
      · rename_i hz
        cases e2
        obtain ⟨a, p1, ⟨xs, p2, p3⟩, p4, p5⟩ := R.ow i _ el rfl
        refine ⟨_, p1, .inl ⟨rfl, xs, SqL.of p2⟩, H₀, Hf₀, ρ, Hf, _, R, e1, fun v H1 Hf1 R1 s1 t1 h1 => ?_⟩
        obtain ⟨a', r1, ⟨ys, r2, r3⟩, r4, r5⟩ := R1.ow i _ el rfl
        rw [p1] at r1; cases r1
        obtain ⟨b, ws, rfl, qb, lb⟩ := Has.lst_iff.mp h1
        refine ⟨a, b, ys, ws, rfl, rfl, r2, R1.sf.seq qb, by rw [r3.length, lb.length]; exact hz, ?_⟩
        exact k _ _ _ (R1.updOwn el rfl p1 rfl ⟨_, upd_same, r3.append lb⟩) t1
      · cases e2
    · cases e2
def addN (f g : FE) : FA := fun ρ => (f ρ).bind fun x => (g ρ).bind fun y => match x, y with
  | .lst xs, .lst ys => if xs.length + ys.length ≤ sizeLine then some (xs ++ ys) else none
  | _, _ => none
@[simp] theorem s_addN {ρ : Rho} : addN f g ρ = (f ρ).bind fun x => (g ρ).bind fun y => match x, y with
  | .lst xs, .lst ys => if xs.length + ys.length ≤ sizeLine then some (xs ++ ys) else none
  | _, _ => none := rfl
theorem dn_addL {a b : Expr} (ha : DR X a f) (hb : DR X b g) : DN X (.BinOp a .Add b pos) (addN f g) :=
  pe_imp (pe_op op_catLG ha hb) fun σ H Q zz => by
    obtain ⟨H₀, Hf₀, ρ, Hf, d, R, q, k⟩ := zz
    obtain ⟨x, y, e1, e2, e3⟩ := bind2_some q
    refine ⟨H₀, Hf₀, ρ, Hf, x, R, e1, fun v H1 Hf1 R1 s1 t1 h1 => ⟨H₀, Hf₀, ρ, Hf1, y, R1, e2, fun v' H2 Hf2 R2 s2 t2 h2 => ?_⟩⟩
    have h3 := h1.mono t2
    split at e3
    · split at e3
      · rename_i hz
        cases e3
        obtain ⟨a, xs, rfl, qa, la⟩ := h3.lst R2
        obtain ⟨b, ys, rfl, qb, lb⟩ := h2.lst R2
        refine ⟨a, b, xs, ys, rfl, rfl, qa, qb, by rw [la.length, lb.length]; exact hz, fun p hp => ?_⟩
        exact k _ _ _ _ (R2.layN hp) ((s1.trans s2).trans (same_upd hp)) (t1.trans t2) (la.append lb) upd_same (R2.sf.free hp) ((s1.trans s2).free hp)
      · cases e3
    · cases e3
theorem call_rng1 : CallR X (.type "range") (fun xs H Q => ∃ j : Int, xs = [.int j] ∧ ∀ p, H p = none → Q (.ref p) (upd H p (.rng 0 j))) := by
  intro pins s σ H xs us Q I r h
  obtain ⟨j, rfl, q⟩ := h
  obtain ⟨u, rfl, t, rfl⟩ := vals1 r
  refine call_range_1 ⟨.ref s.heap.objs.size, _, I.laid (t' := s.toks + 1 + 1) (o := .rng 0 j) (fun b ob q => Heap.get?_push_of_some _ q) (Nat.le_refl _) ⟨_, _, _, Heap.get?_push_size _ rfl⟩, rfl, q _ (I.hok.fresh (Nat.le_refl _))⟩
theorem call_rng2 : CallR X (.type "range") (fun xs H Q => ∃ i j : Int, xs = [.int i, .int j] ∧ ∀ p, H p = none → Q (.ref p) (upd H p (.rng i j))) := by
  intro pins s σ H xs us Q I r h
  obtain ⟨i, j, rfl, q⟩ := h
  obtain ⟨u, u', rfl, ⟨t, rfl⟩, ⟨t', rfl⟩⟩ := vals2 r
  refine call_range_2 ⟨.ref s.heap.objs.size, _, I.laid (t' := s.toks + 1) (o := .rng i j) (fun b ob q => Heap.get?_push_of_some _ q) (Nat.le_refl _) ⟨_, _, _, Heap.get?_push_size _ rfl⟩, rfl, q _ (I.hok.fresh (Nat.le_refl _))⟩
theorem vals_of_items {lo : Int} : ∀ (n : Nat) (its : List Value), its.length = n → (∀ (j : Nat) v, its[j]? = some v → ∃ t, v = .int (lo + (j : Int)) t) → Vals ((List.range n).map fun (k : Nat) => V.int (lo + (k : Int))) its := by
  intro n
  induction n generalizing lo with
  | zero =>
    intro its hl _
    rw [List.eq_nil_of_length_eq_zero hl]
    exact .nil
  | succ n ih =>
    intro its hl h
    cases its with
    | nil => simp at hl
    | cons v its =>
      rw [List.range_succ_eq_map, List.map_cons, List.map_map]
      obtain ⟨t, rfl⟩ := h 0 v rfl
      refine .cons ⟨t, rfl⟩ ?_
      have := ih (lo := lo + 1) its (by simpa using hl) fun j w e => by
        obtain ⟨t, rfl⟩ := h (j + 1) w (by simpa using e)
        exact ⟨t, by congr 1; omega⟩
      have e : ((fun k : Nat => V.int (lo + (k : Int))) ∘ Nat.succ) = fun k : Nat => V.int (lo + 1 + (k : Int)) := by
        funext k
        simp only [Function.comp]
        congr 1
        omega
      rw [e]
      exact this
theorem call_list_rng (hc : X.calm = true) : CallR X (.type "list") (fun xs H Q => ∃ (p : Addr) (lo hi : Int), xs = [.ref p] ∧ H p = some (.rng lo hi) ∧ (-(2 ^ 62) ≤ lo ∧ lo < 2 ^ 62 ∧ -(2 ^ 62) ≤ hi ∧ hi < 2 ^ 62) ∧ (hi - lo).toNat ≤ 1000000 ∧
    ∀ l, H l = none → Q (.ref l) (upd H l (.lst ((List.range (hi - lo).toNat).map fun (k : Nat) => V.int (lo + (k : Int)))))) := by
  intro pins s σ H xs us Q I r h
  obtain ⟨p, lo, hi, rfl, hp, ⟨h1, h2, h3, h4⟩, hn, q⟩ := h
  obtain ⟨u, rfl, rx⟩ := vals1 r
  cases rx
  obtain ⟨t, u, v, e⟩ := I.hok p _ hp
  have hl24 : sizeLine = 16777216 := sizeLine_eq
  refine call_list_range (n := (hi - lo).toNat) (I.ok.hd hc) (show IsRange s.heap p lo hi 1 t u v from e) (small_one h1 h2 h3 h4) (by rw [rangeSize_one]; split <;> omega) (by omega) fun h' tk acc' c' kp es hi' => ?_
  obtain ⟨hs, hv⟩ := hi'
  have vv : Vals ((List.range (hi - lo).toNat).map fun (k : Nat) => V.int (lo + (k : Int))) acc'.toList := vals_of_items _ _ (by simpa using hs) fun j w ew => by
    obtain ⟨t, rfl⟩ := hv j w (by simpa using ew)
    exact ⟨t, by congr 1; omega⟩
  refine ⟨.ref s.heap.objs.size, _, I.laid (t' := tk) (o := .lst _) kp (Nat.le_refl _) ⟨by rw [List.length_map, List.length_range]; omega, acc'.toList, c', vv, by simpa using es⟩, rfl, q _ (I.hok.fresh (Nat.le_refl _))⟩
theorem hasL_rng {K : PySem.W.Frag} {H : Hp} (lo hi : Int) : HasL K H (rangeD lo hi) ((List.range (hi - lo).toNat).map fun (k : Nat) => V.int (lo + (k : Int))) := by
  unfold rangeD
  induction (List.range (hi - lo).toNat) with
  | nil => exact .nil
  | cons k l ih => exact .cons (Has.int_iff.mpr rfl) ih
theorem boot_rangeT : bootBuiltins "range" = some (.type "range") := boot_range
noncomputable def rngN1 (fa : FA) : FA := fun ρ => (fa ρ).bind fun l => match l with
  | [.int j] => if -(2 ^ 62) ≤ j ∧ j ≤ 1000000 then some (rangeD 0 j) else none
  | _ => none
noncomputable def rngN2 (fa : FA) : FA := fun ρ => (fa ρ).bind fun l => match l with
  | [.int i, .int j] => if (-(2 ^ 62) ≤ i ∧ i < 2 ^ 62 ∧ -(2 ^ 62) ≤ j ∧ j < 2 ^ 62) ∧ (j - i).toNat ≤ 1000000 then some (rangeD i j) else none
  | _ => none
theorem dn_listR1 {a : Expr} {fa : FA} {p p2 pos2 : Pos} (hc : X.calm = true) (hg : Gl X "list") (hm : X.mg "list" = none) (hg2 : Gl X "range") (hm2 : X.mg "range" = none) (ha : DAR X [a] fa)
    (he : starEach [.Call (.Name "range" p2) [a] [] pos2] X.env = (false, eval (.Call (.Name "range" p2) [a] [] pos2) X.env) :: starEach [] X.env := by rfl) (hpl : (backTo pos (starEach [] X.env)).any (·.1) = false := by rfl)
    (he2 : starEach [a] X.env = (false, eval a X.env) :: starEach [] X.env := by rfl) (hpl2 : (backTo pos2 (starEach [] X.env)).any (·.1) = false := by rfl) :
    DN X (.Call (.Name "list" p) [.Call (.Name "range" p2) [a] [] pos2] [] pos) (rngN1 fa) :=
  pe_imp (pe_callTy (T := "list") (call_list_rng hc) hg hm (by rfl) (pa_cons (pe_callTy (T := "range") call_rng1 hg2 hm2 boot_rangeT ha (by decide) (by decide) he2 hpl2) pa_nil he) (by decide) (by decide) he hpl) fun σ H Q zz => by
    obtain ⟨H₀, Hf₀, ρ, Hf, d, R, q, k⟩ := zz
    obtain ⟨l, e1, e2⟩ := bindA_some q
    refine ⟨H₀, Hf₀, ρ, Hf, l, R, e1, fun vs H1 Hf1 R1 s1 t1 h1 => ?_⟩
    split at e2
    · rename_i j
      split at e2
      · rename_i hj
        cases e2
        obtain ⟨v, rfl, hv⟩ := HasRL.one h1
        refine ⟨j, by rw [hv.int], fun p hp => ?_⟩
        refine ⟨p, 0, j, rfl, upd_same, ⟨by omega, by omega, by omega, by omega⟩, by omega, fun l' hl' => ?_⟩
        have s2 : Same H1 (upd H1 p (.rng 0 j)) := same_upd hp
        have R2 := R1.layN (o := .rng 0 j) hp
        exact k _ _ _ _ (R2.layN hl') ((s1.trans s2).trans (same_upd hl')) t1 (hasL_rng 0 j) upd_same (R2.sf.free hl') ((s1.trans s2).free hl')
      · cases e2
    · cases e2
theorem dn_listR2 {a b : Expr} {fa : FA} {p p2 pos2 : Pos} (hc : X.calm = true) (hg : Gl X "list") (hm : X.mg "list" = none) (hg2 : Gl X "range") (hm2 : X.mg "range" = none) (ha : DAR X [a, b] fa)
    (he : starEach [.Call (.Name "range" p2) [a, b] [] pos2] X.env = (false, eval (.Call (.Name "range" p2) [a, b] [] pos2) X.env) :: starEach [] X.env := by rfl) (hpl : (backTo pos (starEach [] X.env)).any (·.1) = false := by rfl)
    (he2 : starEach [a, b] X.env = (false, eval a X.env) :: starEach [b] X.env := by rfl) (hpl2 : (backTo pos2 (starEach [b] X.env)).any (·.1) = false := by rfl) :
    DN X (.Call (.Name "list" p) [.Call (.Name "range" p2) [a, b] [] pos2] [] pos) (rngN2 fa) :=
  pe_imp (pe_callTy (T := "list") (call_list_rng hc) hg hm (by rfl) (pa_cons (pe_callTy (T := "range") call_rng2 hg2 hm2 boot_rangeT ha (by decide) (by decide) he2 hpl2) pa_nil he) (by decide) (by decide) he hpl) fun σ H Q zz => by
    obtain ⟨H₀, Hf₀, ρ, Hf, d, R, q, k⟩ := zz
    obtain ⟨l, e1, e2⟩ := bindA_some q
    refine ⟨H₀, Hf₀, ρ, Hf, l, R, e1, fun vs H1 Hf1 R1 s1 t1 h1 => ?_⟩
    split at e2
    · rename_i i j
      split at e2
      · rename_i hj
        cases e2
        obtain ⟨v, v', rfl, hv, hv'⟩ := HasRL.two h1
        refine ⟨i, j, by rw [hv.int, hv'.int], fun p hp => ?_⟩
        refine ⟨p, i, j, rfl, upd_same, hj.1, hj.2, fun l' hl' => ?_⟩
        have s2 : Same H1 (upd H1 p (.rng i j)) := same_upd hp
        have R2 := R1.layN (o := .rng i j) hp
        exact k _ _ _ _ (R2.layN hl') ((s1.trans s2).trans (same_upd hl')) t1 (hasL_rng i j) upd_same (R2.sf.free hl') ((s1.trans s2).free hl')
      · cases e2
    · cases e2
end
end FL
set_option Elab.async false
set_option linter.all false
set_option maxRecDepth 100000
set_option maxHeartbeats 4000000
namespace FL
open PySem PySem.Spec PyProof.Rows L2
theorem int_items {P : Program} {w : World} : ∀ {ks : List Int} {its : List Value}, Vals (ks.map V.int) its → ItemsAre (intKind P w) ks its
  | [], _, h => by cases h; exact .nil
  | k :: ks, _, h => by
    cases h with
    | cons h1 h2 =>
      obtain ⟨t, rfl⟩ := h1
      exact .cons (by show Value.isInt k (.int k t) = true; simp [Value.isInt]) (int_items h2)
structure GDictT (K : PySem.W.Frag) (mg : Str → Option Value) (x : Str) (kvs : List (List Int × D)) : Prop where
  ex : ∃ (a : Addr) (o : Obj) (es : Array DictEntry) (ep : Nat) (xs : List (List Int × Addr × Value)), mg x = some (.ref a) ∧ K.lookup a = some o ∧ o.ExactDict ∧ o.data = .dict es ep ∧ (a == sysModules) = false ∧ (∀ P w, es.toList = xs.map (entryOfKey (tupleKind (intKind P w)))) ∧
    (∀ p ∈ xs, ∃ (o : Obj) (its : Array Value) (n : Nat), K.lookup p.2.1 = some o ∧ o.cls = .type "tuple" ∧ o.data = .seq its n ∧ Vals (p.1.map V.int) its.toList) ∧ (xs.map (·.1)).Nodup ∧
    ∀ ns, (∃ d u v, kvs.lookup ns = some d ∧ (atKey xs ns).map (·.2) = some u ∧ RelV v u ∧ Has K (fun _ => none) d v) ∨ (kvs.lookup ns = none ∧ (atKey xs ns).map (·.2) = none)
def getT (kvs : List (List Int × D)) : D → D → Option D
  | .tup ds, d => (intsOf ds).map fun ns => (kvs.lookup ns).getD d
  | _, _ => none
section
variable {X : Cx} {e e2 : Expr} {f g : FE} {kk : Nat}
theorem d_gget {x : Str} {kvs : List (List Int × D)} {p apos cpos : Pos} (hr : Room kk X.A) (hg : Gl X x) (hm : GDictT X.K X.mg x kvs) (he : DE X e f) (hf : DE X e2 g) (m : M2 X (.Name x p) "get" apos e e2 cpos := by exact ⟨rfl, rfl, rfl, rfl⟩) (hd : (x == ("__debug__" : Str)) = false := by decide) :
    DE X (.Call (.Attribute (.Name x p) "get" apos) [e, e2] [] cpos) (bind2 (getT kvs) f g) := by
  obtain ⟨a, o, es, ep, xs, h1, h2, h3, h4, h5, h6, h7, h8, h9⟩ := hm.ex
  intro pins s σ H Q I h
  obtain ⟨H₀, Hf₀, ρ, Hf, d, R, q, k⟩ := h
  obtain ⟨dx, dy, e1, e2, e3⟩ := bind2_some q
  unfold getT at e3
  split at e3
  · rename_i ds
    obtain ⟨ns, en, rfl⟩ := Option.map_eq_some_iff.mp e3
    refine wpAny_Call_method m.base m.few m.line PySem.F.plainAttrs_dict PySem.F.slot_dict_get PySem.F.type_dict_get (thn (pe_glob (v := .ref a) hg h1 rfl hd pins s σ H (fun x H1 => x = .ref a ∧ H1 = H) I ⟨rfl, rfl⟩) fun u0 s1 zz => ?_)
    obtain ⟨x, H1, I1, rx, ex, eH⟩ := zz
    subst ex eH
    cases rx
    have hb := I1.kIn a o h2
    refine ⟨⟨o, hb, h3.1⟩, fun b q => by cases q; exact ⟨o, hb, h3.2.1⟩, ?_⟩
    rw [m.trees]
    refine Calls.callWith_builtin rfl (Calls.evalArgs_plain (Calls.spliced_cons (thn (he pins s1 σ H1 (fun y H2 => ∃ Hf2, Rep X.K H₀ Hf₀ σ ρ H2 Hf2 ∧ Same H1 H2 ∧ Same Hf Hf2 ∧ Has X.K Hf2 (.tup ds) y) I1 ⟨H₀, Hf₀, ρ, Hf, _, R, e1, fun v H1 Hf1 R1 s1 t1 h1 => ⟨Hf1, R1, s1, t1, h1⟩⟩) fun iv s2 zz => ?_)))
    obtain ⟨y, H2, I2, ry, Hf2, R2, s2', t2, hy⟩ := zz
    refine Calls.spliced_cons (thn (hf pins s2 σ H2 (fun z H3 => ∃ Hf3, Rep X.K H₀ Hf₀ σ ρ H3 Hf3 ∧ Same H2 H3 ∧ Same Hf2 Hf3 ∧ Has X.K Hf3 dy z) I2 ⟨H₀, Hf₀, ρ, Hf2, _, R2, e2, fun v H1 Hf1 R1 s1 t1 h1 => ⟨Hf1, R1, s1, t1, h1⟩⟩) fun fv s3 zz => Calls.spliced_nil ?_)
    obtain ⟨z, H3, I3, rz, Hf3, R3, s3', t3, hz⟩ := zz
    obtain ⟨b, vs, rfl, qb, lb⟩ := Has.tup_iff.mp (hy.mono t3)
    have ev := lb.intsV en
    subst ev
    cases ry
    have qb3 : SqT X.K H3 b (ns.map V.int) := by
      rcases qb with (w | ⟨o', w⟩) | w
      · exact .inl (.inl (R3.sf _ _ w))
      · exact .inl (.inr ⟨o', R3.sf _ _ w⟩)
      · exact .inr w
    obtain ⟨its, rv, ⟨ob, ho, hc, n, hdt⟩, _⟩ := I3.tuple qb3
    have hb3 := I3.kIn a o h2
    have key : (tupleKind (intKind X.prog X.w)).is s3.heap ns b := ⟨ob, its.toArray, n, ho, hc, hdt, by simpa using int_items rv⟩
    have dict : s3.heap.DictOfH (tupleKind (intKind X.prog X.w)) a xs := ⟨o, es, ep, hb3, h3, h4, h6 _ _, fun p hp => by
      obtain ⟨o', its', n', l1, l2, l3, l4⟩ := h7 p hp
      exact ⟨o', its', n', I3.kIn _ _ l1, l2, l3, int_items l4⟩, h8⟩
    refine call_meetsIn PySem.F.slot_dict_get ⟨o, hb3, h3.1⟩ PySem.F.entry_dict_get (PySem.F.args_dict_get_3 _ _ _) (meetsH_dict_get_default (tupleKind (intKind X.prog X.w)) a b h5 fv) ⟨tupleKind_room_in1 (by have := hr.un; omega), ns, xs, key, dict, ?_⟩
    rcases h9 ns with ⟨d, u, v, l1, l2, l3, l4⟩ | ⟨l1, l2⟩
    · rw [l2]
      rw [l1] at k
      exact ⟨v, H3, I3.tok _, l3, k _ _ _ R3 (s2'.trans s3') (t2.trans t3) (l4.mono same_none)⟩
    · rw [l2]
      rw [l1] at k
      exact ⟨z, H3, I3.tok _, rz, k _ _ _ R3 (s2'.trans s3') (t2.trans t3) hz⟩
  · cases e3
end
end FL
set_option Elab.async false
set_option linter.all false
set_option maxRecDepth 100000
set_option maxHeartbeats 4000000
namespace FL
open PySem PySem.Spec PyProof.Rows L2
section
variable {X : Cx}
def rMulZ (K : PySem.W.Frag) : R2 := fun x y H Q => ∃ a k xs, x = .ref a ∧ y = .int k ∧ SqL K H a xs ∧ xs ≠ [] ∧ -1000000 ≤ k ∧ xs.length * k.toNat ≤ 1000000 ∧ ∀ p, H p = none → Q (.ref p) (upd H p (.lst (List.replicate k.toNat xs).flatten))
theorem op_mulZ : OpR X (binaryOp .Mult) (rMulZ X.K) := by
  intro pins s σ H x y v u Q I rx ry h
  obtain ⟨a, k, xs, rfl, rfl, ha, hne, hk, hz, q⟩ := h
  cases rx
  obtain ⟨t, rfl⟩ := ry
  obtain ⟨its, r, p, hz'⟩ := I.list ha
  have hlen := r.length
  obtain ⟨⟨cls, dd, data, sl⟩, ho, hc, n, hd⟩ := p.isList
  simp only at hc hd
  subst hc hd
  have hne' : its.toArray.isEmpty = false := by
    cases its with
    | nil => cases r; exact absurd rfl hne
    | cons _ _ => rfl
  have l1 : 1 ≤ xs.length := by
    cases xs with
    | nil => exact absurd rfl hne
    | cons _ _ => simp
  have l2 : k.toNat ≤ xs.length * k.toNat := Nat.le_mul_of_pos_left _ l1
  have hsz : its.toArray.size * k.toNat ≤ 1000000 := by rw [List.size_toArray, ← hlen]; exact hz
  have hl24 : sizeLine = 16777216 := sizeLine_eq
  have hnew : List.foldl (fun x1 x2 => x1 ++ x2) #[] (List.replicate (if its.toArray.isEmpty = true then 0 else k.toNat) its.toArray) = (List.replicate k.toNat its).flatten.toArray := by
    rw [hne', if_neg Bool.false_ne_true]
    have := foldl_rep its k.toNat []
    rw [List.nil_append] at this
    exact this
  refine wpAny_binaryOp_repeat_ref (T := "list") (U := "int") (by decide) ⟨_, ho, rfl⟩ (fun s' => typeIs_int s' k t) noFill_list_mul F.fills_int_mul F.slot_int_rmul repeat_list F.slot_int_index.lookup
    (call_meets F.slot_int_rmul (typeIs_int s k t) F.entry_int_rmul (F.args_int_rmul_2 _ _) (lm_int_rmul_list_any k t a its.toArray n dd sl)
      ⟨ho, rfl, ⟨_, ho, rfl⟩, call_meets F.slot_list_mul ⟨_, ho, rfl⟩ F.entry_list_mul (F.args_list_mul_2 _ _) (lm_list_mul_any a its.toArray n dd sl k t (by
        unfold Builtin.List.listFitsIndex
        simp
        omega) (by omega) (by
        have hsz' : its.length * k.toNat ≤ 1000000 := by rw [← hlen]; exact hz
        unfold Builtin.List.listTooLong
        simp
        omega)) ⟨ho, ?_⟩⟩)
  rw [hnew]
  refine ⟨.ref s.heap.objs.size, _, I.laid (t' := s.toks) (o := .lst (List.replicate k.toNat xs).flatten) (fun b ob q => Heap.get?_push_of_some _ q) (Nat.le_refl _) ?_, rfl, q _ (I.hok.fresh (Nat.le_refl _))⟩
  exact ⟨by rw [len_rep, Nat.mul_comm]; omega, _, _, r.rep k.toNat, Heap.get?_push_size _ rfl⟩
def mulZ (f g : FE) : FA := fun ρ => (f ρ).bind fun x => (g ρ).bind fun y => match x, y with
  | .lst (d :: ds), .int k => if -1000000 ≤ k ∧ (ds.length + 1) * k.toNat ≤ 1000000 then some (List.replicate k.toNat (d :: ds)).flatten else none
  | _, _ => none
@[simp] theorem s_mulZ {f g : FE} {ρ : Rho} : mulZ f g ρ = (f ρ).bind fun x => (g ρ).bind fun y => match x, y with
  | .lst (d :: ds), .int k => if -1000000 ≤ k ∧ (ds.length + 1) * k.toNat ≤ 1000000 then some (List.replicate k.toNat (d :: ds)).flatten else none
  | _, _ => none := rfl
theorem dn_mulZ {a b : Expr} {f g : FE} {pos : Pos} (ha : DR X a f) (hb : DR X b g) : DN X (.BinOp a .Mult b pos) (mulZ f g) :=
  pe_imp (pe_op op_mulZ ha hb) fun σ H Q ⟨H₀, Hf₀, ρ, Hf, d, R, q, k⟩ => by
    obtain ⟨x, y, e1, e2, e3⟩ := bind2_some q
    refine ⟨H₀, Hf₀, ρ, Hf, x, R, e1, fun v H1 Hf1 R1 s1 t1 h1 => ⟨H₀, Hf₀, ρ, Hf1, y, R1, e2, fun v' H2 Hf2 R2 s2 t2 h2 => ?_⟩⟩
    have h3 := h1.mono t2
    split at e3
    · rename_i e ds j
      split at e3
      · rename_i hz
        cases e3
        obtain ⟨a, xs, rfl, qa, la⟩ := h3.lst R2
        have hl := la.length
        refine ⟨a, j, xs, rfl, h2.int, qa, fun z => ?_, hz.1, by rw [hl]; exact hz.2, fun p hp => ?_⟩
        · rw [z] at hl; simp at hl
        · exact k _ _ _ _ (R2.layN hp) ((s1.trans s2).trans (same_upd hp)) (t1.trans t2) (HasL.rep la j.toNat) upd_same (R2.sf.free hp) ((s1.trans s2).free hp)
      · cases e3
    · cases e3
end
end FL
set_option Elab.async false
set_option linter.all false
set_option maxRecDepth 100000
set_option maxHeartbeats 4000000
namespace FL
open PySem PySem.Spec PyProof.Rows L2
def hashT (ks : List Int) : Int := reduceHash (Builtin.Tuple.tupleHashOf (ks.map hashInt))
inductive GEntT (K : PySem.W.Frag) : List (List Int × D) → List DictEntry → List (List Int × Addr × Value) → Prop
  | nil : GEntT K [] [] []
  | cons {ks : List Int} {d : D} {kvs : List (List Int × D)} {h : Int} {ta : Addr} {od : Option Addr} {its : Array Value} {n : Nat} {osl : Array (Option Value)} {v : V} {u : Value} {es : List DictEntry} {xs : List (List Int × Addr × Value)}
      (hz : hashT ks = h) (lk : K.lookup ta = some ⟨.type "tuple", od, .seq its n, osl⟩) (vals : Vals (ks.map V.int) its.toList) (rel : RelV v u) (has : Has K (fun _ => none) d v) (rest : GEntT K kvs es xs) : GEntT K ((ks, d) :: kvs) (⟨h, .ref ta, u⟩ :: es) ((ks, ta, u) :: xs)
theorem GEntT.keys {K : PySem.W.Frag} {kvs : List (List Int × D)} {es : List DictEntry} {xs : List (List Int × Addr × Value)} (g : GEntT K kvs es xs) : xs.map (·.1) = kvs.map (·.1) := by
  induction g with
  | nil => rfl
  | cons _ _ _ _ _ _ ih => simp [ih]
theorem GEntT.ents {K : PySem.W.Frag} {kvs : List (List Int × D)} {es : List DictEntry} {xs : List (List Int × Addr × Value)} (g : GEntT K kvs es xs) (P : Program) (w : World) : es = xs.map (entryOfKey (tupleKind (intKind P w))) := by
  induction g with
  | nil => rfl
  | cons hz _ _ _ _ _ ih =>
    subst hz
    rw [List.map_cons, ← ih]
    rfl
theorem GEntT.tups {K : PySem.W.Frag} {kvs : List (List Int × D)} {es : List DictEntry} {xs : List (List Int × Addr × Value)} (g : GEntT K kvs es xs) : ∀ p ∈ xs, ∃ (o : Obj) (its : Array Value) (n : Nat), K.lookup p.2.1 = some o ∧ o.cls = .type "tuple" ∧ o.data = .seq its n ∧ Vals (p.1.map V.int) its.toList := by
  induction g with
  | nil => intro p hp; cases hp
  | cons _ lk vals _ _ _ ih =>
    intro p hp
    rcases List.mem_cons.mp hp with rfl | hp
    · exact ⟨_, _, _, lk, rfl, rfl, vals⟩
    · exact ih p hp
theorem GEntT.look {K : PySem.W.Frag} {kvs : List (List Int × D)} {es : List DictEntry} {xs : List (List Int × Addr × Value)} (g : GEntT K kvs es xs) (ns : List Int) :
    (∃ d u v, kvs.lookup ns = some d ∧ (atKey xs ns).map (·.2) = some u ∧ RelV v u ∧ Has K (fun _ => none) d v) ∨ (kvs.lookup ns = none ∧ (atKey xs ns).map (·.2) = none) := by
  induction g with
  | nil => exact .inr ⟨rfl, rfl⟩
  | @cons ks d kvs h ta od its n osl v u es xs hz lk vals rel has rest ih =>
    by_cases c : ks = ns
    · subst c
      refine .inl ⟨d, u, v, by simp [List.lookup], ?_, rel, has⟩
      simp [atKey]
    · have e1 : ((ks, d) :: kvs).lookup ns = kvs.lookup ns := by
        rw [List.lookup_cons]
        have : (ns == ks) = false := by simpa using fun z => c z.symm
        rw [this]
      have e2 : atKey ((ks, ta, u) :: xs) ns = atKey xs ns := by
        unfold atKey
        rw [List.find?_cons_of_neg (by simpa using c)]
      rw [e1, e2]
      exact ih
theorem gdictT_mk {K : PySem.W.Frag} {mg : Str → Option Value} {x : Str} {a : Addr} {es : Array DictEntry} {ep : Nat} {kvs : List (List Int × D)} {xs : List (List Int × Addr × Value)} (h1 : mg x = some (.ref a)) (h2 : K.lookup a = some ⟨.type "dict", none, .dict es ep, #[]⟩)
    (hs : (a == sysModules) = false) (g : GEntT K kvs es.toList xs) (nd : (kvs.map (·.1)).Nodup) : GDictT K mg x kvs :=
  ⟨a, _, es, ep, xs, h1, h2, ⟨rfl, rfl, rfl⟩, rfl, hs, fun P w => g.ents P w, g.tups, by rw [g.keys]; exact nd, g.look⟩
end FL
set_option Elab.async false
set_option linter.all false
set_option maxRecDepth 100000
set_option maxHeartbeats 4000000
namespace FL
open PySem PySem.Spec PyProof.Rows L2
open PySem.AutoSeq1 (wpAny_loadPart')
open PySem.MeetsSeq PySem.MeetsSeq2 PySem.MeetsSeq3
theorem list_lt_head (l b : Addr) (i0 j0 : Int) (t0 u0 : Tok) (items items2 : Array Value) (n n2 : Nat) (dd dd2 : Option Addr) (sl sl2 : Array (Option Value)) (hne : i0 ≠ j0) (e1 : items[0]? = some (.int i0 t0)) (e2 : items2[0]? = some (.int j0 u0)) :
    Meets (Builtin.«list.__lt__» ⟨[.ref l, .ref b], []⟩)
      (fun A R s => s.heap.get? l = some { cls := .type "list", dict := dd, data := .seq items n, slots := sl } ∧ s.heap.get? b = some { cls := .type "list", dict := dd2, data := .seq items2 n2, slots := sl2 } ∧
        R (.ok (.ret (.bool (decide (i0 < j0))))) s) := by
  intro prog w A R s h
  obtain ⟨hp, g, d, tk, os⟩ := s; obtain ⟨hl, hb, h⟩ := h
  have f3 := AutoSeq1.sub_list_list
  wp_walk using wpAny_loadPart' hl, wpAny_loadPart' hb
  refine ⟨plainId_quiet plain_eq_loop _, codeAny_builtin entry_eq_loop ?_⟩
  rw [Around.under_plainId plain_eq_loop _]
  wp_walk using wpAny_loadPart' hl, wpAny_loadPart' hb
  rw [show items[(0 : Int).toNat]? = some (.int i0 t0) from e1, show items2[(0 : Int).toNat]? = some (.int j0 u0) from e2]
  refine wpAny_bind (wpAny_eqBool_int ?_)
  rw [show (i0 == j0) = false by simpa using hne]
  wp_walk using wpAny_loadPart' hl, wpAny_loadPart' hb
  rw [show items[(0 : Int).toNat]? = some (.int i0 t0) from e1, show items2[(0 : Int).toNat]? = some (.int j0 u0) from e2]
  refine wpAny_bind (wpAny_lt_int (wpAny_pure ?_))
  exact h
abbrev HR := (Int × List Int) × Str
def hrD (r : HR) : D := .tup [.lst ((r.1.1 :: r.1.2).map D.int), .str r.2]
def insH (x : HR) : List HR → List HR
  | [] => [x]
  | y :: l => if y.1.1 < x.1.1 then y :: insH x l else x :: y :: l
def sortH : List HR → List HR
  | [] => []
  | x :: l => insH x (sortH l)
theorem insH_perm (x : HR) : ∀ l, (insH x l).Perm (x :: l)
  | [] => .refl _
  | y :: l => by
    unfold insH
    split
    · exact ((insH_perm x l).cons y).trans (.swap x y l)
    · exact .refl _
theorem sortH_perm : ∀ l, (sortH l).Perm l
  | [] => .refl _
  | x :: l => (insH_perm x (sortH l)).trans ((sortH_perm l).cons x)
theorem insH_sorted (x : HR) : ∀ {l : List HR}, l.Pairwise (fun a b => a.1.1 ≤ b.1.1) → (insH x l).Pairwise (fun a b => a.1.1 ≤ b.1.1)
  | [], _ => List.pairwise_singleton _ _
  | y :: l, h => by
    have h' := List.pairwise_cons.mp h
    unfold insH
    split
    · rename_i c
      refine List.pairwise_cons.mpr ⟨fun z hz => ?_, insH_sorted x h'.2⟩
      rcases List.mem_cons.mp ((insH_perm x l).subset hz) with rfl | hz
      · omega
      · exact h'.1 z hz
    · rename_i c
      refine List.pairwise_cons.mpr ⟨fun z hz => ?_, h⟩
      rcases List.mem_cons.mp hz with rfl | hz
      · omega
      · have := h'.1 z hz
        omega
theorem sortH_sorted : ∀ l, (sortH l).Pairwise (fun a b => a.1.1 ≤ b.1.1)
  | [] => .nil
  | x :: l => insH_sorted x (sortH_sorted l)
theorem asc_eq : ∀ {a b : List HR}, a.Perm b → (a.map (·.1.1)).Nodup → a.Pairwise (fun x y => x.1.1 ≤ y.1.1) → b.Pairwise (fun x y => x.1.1 ≤ y.1.1) → a = b
  | [], b, h, _, _, _ => (List.nil_perm.mp h).symm
  | x :: a, [], h, _, _, _ => by have := h.length_eq; simp at this
  | x :: a, y :: b, h, hn, ha, hb => by
    rw [List.pairwise_cons] at ha hb
    rw [List.map_cons, List.nodup_cons] at hn
    have e : x = y := by
      have h1 : x ∈ y :: b := h.subset List.mem_cons_self
      have h2 : y ∈ x :: a := h.symm.subset List.mem_cons_self
      rcases List.mem_cons.mp h1 with h1 | h1
      · exact h1
      · rcases List.mem_cons.mp h2 with h2 | h2
        · exact h2.symm
        · have q1 := ha.1 y h2
          have q2 := hb.1 x h1
          have q3 : y.1.1 = x.1.1 := by omega
          exact absurd (q3 ▸ List.mem_map_of_mem h2) hn.1
    subst e
    rw [asc_eq h.cons_inv hn.2 ha.2 hb.2]
def intOrd : KeyOrd where
  α := Int
  blt := fun a b => decide (a < b)
  irrefl := fun a => by simp
  trans := fun a b c h h' => by simp at *; omega
  negTrans := fun a b c h => by simp at *; omega
  total := fun a b h h' => by simp at *; omega
def hAt (rs : List HR) (i : Nat) : HR := rs.getD i ((0, []), "")
section
variable {X : Cx} {pins : List (Addr × Obj)} {σ : St} {H : Hp} {s : Shared} {A : Around}
theorem h_tups (I : Inv X pins σ H s) : ∀ {rs : List HR} {ys : List V} {us : List Value}, HasL X.K H (rs.map hrD) ys → Vals ys us →
    ∃ fs, PySem.W.KatTups s.heap us fs ∧ fs.length = rs.length ∧ ∀ v ∈ fs, ∃ b o, v = .ref b ∧ s.heap.get? b = some o ∧ o.cls = .type "list"
  | [], ys, us, h, r => by
    rw [List.map_nil, HasL.nil_iff] at h
    subst h
    cases r
    exact ⟨[], .nil, rfl, fun v hv => nomatch hv⟩
  | x :: rs, ys, us, h, r => by
    obtain ⟨v, vr, rfl, e0, l⟩ := HasL.cons_iff.mp h
    cases r with
    | cons r0 r =>
      obtain ⟨fs, t, hl, ht⟩ := h_tups I l r
      obtain ⟨a, xs, rfl, q, lx⟩ := Has.tup_iff.mp e0
      cases r0
      obtain ⟨its, rv, ⟨o, ho, hc, n, hd⟩, _⟩ := I.tuple q
      obtain ⟨w, wr, rfl, f0, lw⟩ := HasL.cons_iff.mp lx
      cases rv with
      | cons k0 rv =>
        obtain ⟨b, bs, rfl, q', l'⟩ := Has.lst_iff.mp f0
        cases k0
        obtain ⟨its', rv', ⟨o', _, ho', hc', _⟩, _⟩ := I.list q'
        refine ⟨.ref b :: fs, .cons ho hc hd (by simp) t, by simp [hl], fun v hv => ?_⟩
        rcases List.mem_cons.mp hv with rfl | hv
        · exact ⟨b, o', rfl, ho', hc'⟩
        · exact ht v hv
theorem h_at {K : PySem.W.Frag} {rs : List HR} {ys : List V} {us : List Value} (h : HasL K H (rs.map hrD) ys) (r : Vals ys us) {i : Nat} (hi : i < us.length) :
    Has K H (hrD (hAt rs i)) (ys.getD i .non) ∧ RelV (ys.getD i .non) (us.getD i .none) := by
  have hl := r.length
  have hl' := h.length
  rw [List.length_map] at hl'
  have e : (rs.map hrD)[i]? = some (hrD (hAt rs i)) := by
    unfold hAt
    rw [List.getElem?_map, List.getD_eq_getElem?_getD, List.getElem?_eq_getElem (by omega)]
    rfl
  obtain ⟨v, hv, hh⟩ := h.get e
  have ev : ys.getD i .non = v := by rw [List.getD_eq_getElem?_getD, hv]; rfl
  refine ⟨by rw [ev]; exact hh, ?_⟩
  obtain ⟨u, hu, hr⟩ := r.get hv
  rw [ev, List.getD_eq_getElem?_getD, hu]
  exact hr
theorem h_maps {K : PySem.W.Frag} {rs : List HR} {ys : List V} {us : List Value} (h : HasL K H (rs.map hrD) ys) (r : Vals ys us) : ∀ (l : List Nat), (∀ i ∈ l, i < us.length) →
    HasL K H ((l.map fun i => hAt rs i).map hrD) (l.map fun i => ys.getD i .non) ∧ Vals (l.map fun i => ys.getD i .non) (l.map fun i => us.getD i .none)
  | [], _ => ⟨.nil, .nil⟩
  | i :: l, hl => by
    have a := h_at h r (hl i List.mem_cons_self)
    have b := h_maps h r l fun j hj => hl j (List.mem_cons_of_mem _ hj)
    exact ⟨.cons a.1 b.1, .cons a.2 b.2⟩
theorem map_range_h (rs : List HR) : (List.range rs.length).map (fun i => hAt rs i) = rs := by
  unfold hAt
  apply List.ext_getElem
  · simp
  · intro i h1 h2
    simp [h2]
theorem up_sortH {rs : List HR} {p : Array Nat} (hn : (rs.map (·.1.1)).Nodup) (b : Bs rs.length p) (u : UpTo (O := intOrd) (fun i => (hAt rs i).1.1) p rs.length) : sortH rs = p.toList.map fun i => hAt rs i := by
  have hp : p.toList.Perm (List.range rs.length) := by simpa using Array.perm_iff_toList_perm.mp b.perm
  have h1 : (p.toList.map fun i => hAt rs i).Perm rs := by
    have := hp.map fun i => hAt rs i
    rwa [map_range_h] at this
  refine asc_eq ((sortH_perm rs).trans h1.symm) (((sortH_perm rs).map _).nodup_iff.mpr hn) (sortH_sorted rs) ?_
  rw [List.pairwise_iff_getElem]
  intro i j hi hj hij
  have hs := b.size
  simp only [List.length_map, Array.length_toList] at hi hj
  have q : @decide (@LT.lt Int _ (KP (O := intOrd) (fun i => (hAt rs i).1.1) p j) (KP (O := intOrd) (fun i => (hAt rs i).1.1) p i)) (Int.decLt _ _) = false := u i j (by omega) (by omega)
  unfold KP at q
  rw [Array.getElem?_eq_getElem hi, Array.getElem?_eq_getElem hj] at q
  simpa using q
theorem dep_hl (l : List Int) : dep (.lst (l.map D.int)) ≤ 1 := by
  unfold dep
  have : depL (l.map D.int) ≤ 0 := depL_le fun d hd => by
    obtain ⟨x, _, rfl⟩ := List.mem_map.mp hd
    exact Nat.le_refl _
  omega
theorem h_heads {rs : List HR} (hn : (rs.map (·.1.1)).Nodup) {i j : Nat} (hi : i < rs.length) (hj : j < rs.length) (e : (hAt rs i).1.1 = (hAt rs j).1.1) : i = j := by
  have hi' : i < (rs.map fun r : HR => r.1.1).length := by simpa using hi
  have hj' : j < (rs.map fun r : HR => r.1.1).length := by simpa using hj
  refine (List.getElem_inj (h₀ := hi') (h₁ := hj') hn).mp ?_
  unfold hAt at e
  simpa [hi, hj] using e
theorem lex_h (I : Inv X pins σ H s) (hu : A.units + 50 < cLine) {Q : Bool → Shared → Prop} {x y : HR} (hxy : x.1.1 = y.1.1 → x = y) {vs ws : List V} {us us' : List Value} (h : HasL X.K H [.lst ((x.1.1 :: x.1.2).map D.int), .str x.2] vs) (h' : HasL X.K H [.lst ((y.1.1 :: y.1.2).map D.int), .str y.2] ws) (r : Vals vs us) (r' : Vals ws us')
    (hq : Q (decide (x.1.1 < y.1.1)) s) : PySem.W.KatLex X.prog X.w A true (decide (us.length < us'.length)) Q (us.zip us') 0 s := by
  obtain ⟨v0, vr, rfl, e0, l⟩ := HasL.cons_iff.mp h
  obtain ⟨w0, wr, rfl, f0, l'⟩ := HasL.cons_iff.mp h'
  obtain ⟨v1, vr, rfl, e1, l⟩ := HasL.cons_iff.mp l
  obtain ⟨w1, wr, rfl, f1, l'⟩ := HasL.cons_iff.mp l'
  rw [HasL.nil_iff] at l l'
  subst l l'
  cases r with
  | cons r0 r =>
  cases r with
  | cons r1 r =>
  cases r
  cases r' with
  | cons r0' r' =>
  cases r' with
  | cons r1' r' =>
  cases r'
  have d1 := dep_hl (x.1.1 :: x.1.2)
  refine PySem.W.kat_cons (eqAt_of I (.lst ((x.1.1 :: x.1.2).map D.int)) A (.lst ((y.1.1 :: y.1.2).map D.int)) v0 w0 _ _ e0 f0 r0 r0' (by omega) _ _ _ _ ?_)
  by_cases c : x.1.1 = y.1.1
  · have := hxy c
    subst this
    rw [eqD_refl]
    refine PySem.W.kat_yes (PySem.W.kat_cons (eqAt_of I (.str x.2) A (.str x.2) v1 w1 _ _ e1 f1 r1 r1' (by show A.units + 0 < cLine; omega) _ _ _ _ ?_))
    rw [eqD_refl]
    refine PySem.W.kat_yes (PySem.W.kat_nil ?_)
    simpa using hq
  · have ee : eqD (.lst ((x.1.1 :: x.1.2).map D.int)) (.lst ((y.1.1 :: y.1.2).map D.int)) = false := by
      simp [eqD, eqDL, c]
    rw [ee]
    refine PySem.W.kat_no ?_
    show wpAny _ _ (oneLt' true _ _) _ _ _
    obtain ⟨a, xs, rfl, qa, la⟩ := Has.lst_iff.mp e0
    obtain ⟨b, ys, rfl, qb, lb⟩ := Has.lst_iff.mp f0
    cases r0
    cases r0'
    obtain ⟨ia, ra, ⟨o, n, ho, hc, _, hd⟩, _⟩ := I.list qa
    obtain ⟨ib, rb, ⟨o', n', ho', hc', _, hd'⟩, _⟩ := I.list qb
    obtain ⟨p0, pr, rfl, g0, _⟩ := HasL.cons_iff.mp la
    obtain ⟨p1, pr', rfl, g1, _⟩ := HasL.cons_iff.mp lb
    rw [Has.int_iff] at g0 g1
    subst g0 g1
    cases ra with
    | cons k0 ra =>
    cases rb with
    | cons k1 rb =>
    obtain ⟨t0, rfl⟩ := k0
    obtain ⟨t1, rfl⟩ := k1
    obtain ⟨cl, dd, da, sl⟩ := o
    obtain ⟨cl', dd', da', sl'⟩ := o'
    dsimp only at hc hc' hd hd'
    subst hc hc' hd hd'
    rw [oneLt'_eq]
    simp only [if_true]
    refine wpAny_bind (wpAny_cRoomFor (by omega) ?_)
    refine wpAny_bind (wpAny_callSpecialIfBound?_slot ⟨_, ho, rfl⟩ F.slot_list_lt (call_meets F.slot_list_lt ⟨_, ho, rfl⟩ F.entry_list_lt (F.args_list_lt_2 _ _) (list_lt_head a b x.1.1 y.1.1 t0 t1 _ _ _ _ _ _ _ _ c (by simp) (by simp)) ⟨ho, ho', ?_⟩))
    exact wpAny_truthy_bool hq
theorem call_sortedH {kk : Nat} (hr : Room kk X.A) : CallR X (.builtin "sorted") (fun xs H Q => ∃ (p : Addr) (rs : List HR) (ys : List V), xs = [.ref p] ∧ SqL X.K H p ys ∧ HasL X.K H (rs.map hrD) ys ∧ rs.length < 64 ∧ (rs.map fun r : HR => r.1.1).Nodup ∧
    ∀ l (L : List Nat), H l = none → (∀ i ∈ L, i < ys.length) → sortH rs = L.map (fun i => hAt rs i) → Q (.ref l) (upd H l (.lst (L.map fun i => ys.getD i .non)))) := by
  intro pins s σ H xs us Q I r h
  obtain ⟨p, rs, ys, rfl, hq, hh, hn, hne, q⟩ := h
  obtain ⟨u, rfl, rx⟩ := vals1 r
  cases rx
  obtain ⟨its, r', pl, hz⟩ := I.list hq
  have hlen := r'.length
  have hlen' := hh.length
  rw [List.length_map] at hlen'
  have hu : X.A.in1.in1.units + 100 < cLine := by show X.A.units + 1 + 1 + 100 < cLine; have := hr.un; omega
  refine sorted_T (O := intOrd) (key := fun i => (hAt rs i).1.1) (κ := tuples' true) (vs := its) pl.isList (by omega) (fun h2 h' hk => ?_) fun p' a1 a2 => ?_
  · have I' : Inv X pins σ H { s with heap := h' } := I.kept (t' := s.toks) hk
    refine ⟨fun Q E hq => ?_, fun i j Q hi hj hq => ?_⟩
    · obtain ⟨fs, t, hl, ht⟩ := h_tups I' hh r'
      refine PySem.W.kat_kind (T := .type "list") t (by omega) (fun v hv => ?_) (by rfl) hq
      obtain ⟨b, o, rfl, ho, hc⟩ := ht v hv
      have : PySem.W.Looks (model X.prog X.w) h' (typeOf (.ref b)) o.cls := (PySem.W.Looks.ld ho).andThen .now
      rw [hc] at this
      exact this
    · obtain ⟨x1, x2⟩ := h_at hh r' hi
      obtain ⟨y1, y2⟩ := h_at hh r' hj
      obtain ⟨a, xs, e, qa, la⟩ := Has.tup_iff.mp x1
      obtain ⟨b, zs, e', qb, lb⟩ := Has.tup_iff.mp y1
      rw [e] at x2
      rw [e'] at y2
      have k1 : its.getD i .none = .ref a := x2
      have k2 : its.getD j .none = .ref b := y2
      obtain ⟨ia, ra, ⟨o, ho, hc, n, hd⟩, _⟩ := I'.tuple qa
      obtain ⟨ib, rb, ⟨o', ho', hc', n', hd'⟩, _⟩ := I'.tuple qb
      rw [k1, k2]
      refine PySem.W.kat_lt ho hd ho' hd' ?_
      have := lex_h (A := X.A.in1.in1) I' (by omega) (x := hAt rs i) (y := hAt rs j) (fun e => by rw [h_heads hne (by omega) (by omega) e]) la lb ra rb (Q := Q) hq
      simpa using this
  · have hm : ∀ i ∈ p'.toList, i < its.length := fun i hi => by
      have : i ∈ List.range its.length := by simpa using (Array.perm_iff_toList_perm.mp a1.perm).mem_iff.mp hi
      simpa using this
    have b := h_maps hh r' p'.toList hm
    have el : its.length = rs.length := by omega
    rw [el] at a1 a2
    have hf : H (s.heap.objs.size + 1) = none := I.hok.fresh (Nat.le_succ _)
    have q' := q _ p'.toList hf (by rw [hlen]; exact hm) (up_sortH hne a1 a2)
    obtain ⟨e, he⟩ := sortedAll_at s.heap its (List.toArray (p'.toList.map fun i => its.getD i .none))
    exact ⟨.ref (s.heap.objs.size + 1), _, I.laid (t' := s.toks) (fun b o x => sortedAll_old x) (Nat.le_succ _) (show ObjOk X.prog X.w _ (sortedAll s.heap its _) _ (.lst _) from ⟨by rw [List.length_map, Array.length_toList, a1.size]; omega, _, e, b.2, he⟩), rfl, q'⟩
theorem h_has {K : PySem.W.Frag} {rs : List HR} {ys : List V} (h : HasL K H (rs.map hrD) ys) : ∀ (l : List Nat), (∀ i ∈ l, i < ys.length) → HasL K H ((l.map fun i => hAt rs i).map hrD) (l.map fun i => ys.getD i .non)
  | [], _ => .nil
  | i :: l, hl => by
    have hi := hl i List.mem_cons_self
    have hl' := h.length
    rw [List.length_map] at hl'
    have e : (rs.map hrD)[i]? = some (hrD (hAt rs i)) := by
      unfold hAt
      rw [List.getElem?_map, List.getD_eq_getElem?_getD, List.getElem?_eq_getElem (by omega)]
      rfl
    obtain ⟨v, hv, hh⟩ := h.get e
    have ev : ys.getD i .non = v := by rw [List.getD_eq_getElem?_getD, hv]; rfl
    exact .cons (show Has K H (hrD (hAt rs i)) (ys.getD i .non) by rw [ev]; exact hh) (h_has h l fun j hj => hl j (List.mem_cons_of_mem _ hj))
end
def hrOf : D → Option HR
  | .tup [.lst (.int h :: ds), .str t] => (intsOf ds).map fun r => ((h, r), t)
  | _ => none
def hrsOf : List D → Option (List HR)
  | [] => some []
  | d :: ds => (hrOf d).bind fun x => (hrsOf ds).bind fun r => some (x :: r)
theorem hrOf_some {d : D} {x : HR} (h : hrOf d = some x) : d = hrD x := by
  unfold hrOf at h
  split at h
  · obtain ⟨r, e, rfl⟩ := Option.map_eq_some_iff.mp h
    rw [intsOf_some e]
    rfl
  · cases h
theorem hrsOf_some : ∀ {ds : List D} {rs : List HR}, hrsOf ds = some rs → ds = rs.map hrD
  | [], r, h => by cases h; rfl
  | d :: ds, r, h => by
    obtain ⟨x, h1, h⟩ := Option.bind_eq_some_iff.mp (show (hrOf d).bind (fun x => (hrsOf ds).bind fun r => some (x :: r)) = some r from h)
    obtain ⟨r', h2, h⟩ := Option.bind_eq_some_iff.mp h
    cases h
    rw [hrOf_some h1, hrsOf_some h2]
    rfl
theorem hrsOf_map : ∀ rs : List HR, hrsOf (rs.map hrD) = some rs
  | [] => rfl
  | r :: rs => by
    show ((intsOf (r.1.2.map D.int)).map fun z => ((r.1.1, z), r.2)).bind (fun x => (hrsOf (rs.map hrD)).bind fun r => some (x :: r)) = _
    rw [hrsOf_map rs, intsOf_map]
    rfl
def sortHN (fa : FA) : FA := fun ρ => (fa ρ).bind fun l => match l with
  | [.lst ds] => (hrsOf ds).bind fun rs => if rs.length < 64 ∧ (rs.map fun r : HR => r.1.1).Nodup then some ((sortH rs).map hrD) else none
  | _ => none
theorem s_sortHN {fa : FA} {ρ : Rho} {rs : List HR} (h : fa ρ = some [.lst (rs.map hrD)]) (h1 : rs.length < 64) (h2 : (rs.map fun r : HR => r.1.1).Nodup) : sortHN fa ρ = some ((sortH rs).map hrD) := by
  unfold sortHN
  rw [h]
  show (hrsOf (rs.map hrD)).bind _ = _
  rw [hrsOf_map]
  exact if_pos ⟨h1, h2⟩
section
variable {X : Cx} {e : Expr} {pos : Pos} {kk : Nat}
theorem dn_sortedH (hr : Room kk X.A) {es : List Expr} {fa : FA} {p : Pos} (hg : Gl X "sorted") (hm : X.mg "sorted" = none) (ha : DAR X (e :: es) fa)
    (he : starEach (e :: es) X.env = (false, eval e X.env) :: starEach es X.env := by rfl) (hpl : (backTo pos (starEach es X.env)).any (·.1) = false := by rfl) : DN X (.Call (.Name "sorted" p) (e :: es) [] pos) (sortHN fa) :=
  pe_imp (pe_callB (id := "sorted") (call_sortedH hr) hg hm boot_sorted ha (by decide) (by decide) he hpl) fun σ H Q ⟨H₀, Hf₀, ρ, Hf, d, R, q, k⟩ => by
    obtain ⟨l, e1, e2⟩ := bindA_some q
    refine ⟨H₀, Hf₀, ρ, Hf, l, R, e1, fun vs H1 Hf1 R1 s1 t1 h1 => ?_⟩
    split at e2
    · rename_i ds
      obtain ⟨rs, e3, e4⟩ := Option.bind_eq_some_iff.mp e2
      split at e4
      · rename_i hn
        cases e4
        obtain ⟨v, rfl, hv⟩ := HasRL.one h1
        obtain ⟨a, ys, rfl, q, l⟩ := hv.lst R1
        rw [hrsOf_some e3] at l
        refine ⟨a, rs, ys, rfl, q, l.mono R1.sf, hn.1, hn.2, fun p L hp hL eL => ?_⟩
        rw [eL] at k
        exact k _ _ _ _ (R1.layN hp) (s1.trans (same_upd hp)) t1 (h_has l L hL) upd_same (R1.sf.free hp) (s1.free hp)
      · cases e4
    · cases e2
end
end FL
set_option Elab.async false
set_option linter.all false
set_option maxRecDepth 100000
set_option maxHeartbeats 4000000
namespace GH
open FL L2
abbrev T3 := Int × Int × Int
def tD (t : T3) : D := .tup [.int t.1, .int t.2.1, .int t.2.2]
def houseD (n : Nat) (ts : List T3) : D := .tup [.int n, .lst (ts.map tD)]
def mlo (i j : Int) : Int := if j < i then j else i
def mhi (i j : Int) : Int := if j > i then j else i
theorem mlo_comm (i j : Int) : mlo i j = mlo j i := by unfold mlo; split <;> split <;> omega
theorem mhi_comm (i j : Int) : mhi i j = mhi j i := by unfold mhi; split <;> split <;> omega
def turnM : List T3 → Int → Int → Int
  | [], _, _ => 2
  | t :: ts, i, j => if t.1 = mlo i j ∧ t.2.1 = mhi i j then t.2.2 else turnM ts i j
theorem turnM_comm (ts : List T3) (i j : Int) : turnM ts i j = turnM ts j i := by
  induction ts with
  | nil => rfl
  | cons t ts ih => unfold turnM; rw [mlo_comm, mhi_comm, ih]
end GH
namespace GH
def nbM (t : Int → Int → Int) (x : Int) (os : List Int) : List Int := os.filter fun o => decide (o ≠ x) && decide (t x o ≠ 2)
def woM (os : List Int) (x : Int) : List Int := os.filter fun o => decide (o ≠ x)
def chG (t : Int → Int → Int) : Nat → Int → List Int → Option (List Int)
  | 0, _, _ => some []
  | n + 1, x, left => if left = [] then some [] else match nbM t x left with
    | [y] => (chG t n y (woM left y)).map (y :: ·)
    | _ => none
def chainM (t : Int → Int → Int) (ms : List Int) (f : Int) : Option (List Int) := (chG t ms.length f (woM ms f)).map (f :: ·)
def chainsM (t : Int → Int → Int) (ms : List Int) : List (List Int) := ms.filterMap (chainM t ms)
def alongM (t : Int → Int → Int) (o : List Int) : List Int := List.zipWith t o (o.drop 1)
abbrev Kd := Nat × Nat
def kchM (ts : List Int) : Kd :=
  if ts = List.replicate ts.length 3 then (1, ts.length + 1)
  else if ts = List.replicate (ts.length - 1) 3 ++ [4] then (2, ts.length + 1)
  else if ts = [3, 4, 3] then (6, 4) else if ts = [3, 5] then (8, 3) else if ts = [3, 3, 5] then (8, 4)
  else if ts = [5] then (9, 5) else if ts = [6] then (9, 6) else (0, 0)
def kbesM (o : List Int) (y : Int) : Kd :=
  if 4 ≤ o.length + 1 ∧ o[1]? = some y then (4, o.length + 1) else if o.length + 1 = 6 ∧ o[2]? = some y then (5, 6) else (0, 0)
def kcsM (t : Int → Int → Int) (ms : List Int) : List Kd := (chainsM t ms).map fun o => kchM (alongM t o)
def kesM (t : Int → Int → Int) (ms : List Int) : List Kd := ms.flatMap fun e => match nbM t e ms with
  | [y] => (chainsM t (woM ms e)).map fun o => kbesM o y
  | _ => []
def kindL (l : List Kd) : Kd := match l.find? (fun k => decide (k ≠ (0, 0))) with
  | some k => k
  | none => (0, 0)
def kallM (t : Int → Int → Int) (three : Bool) (ms : List Int) : List Kd := kcsM t ms ++ if three then kesM t ms else []
structure Rlb (t t' : Int → Int → Int) (φ : Int → Int) (S : List Int) : Prop where
  tt : ∀ i ∈ S, ∀ j ∈ S, t' (φ i) (φ j) = t i j
  inj : ∀ i ∈ S, ∀ j ∈ S, φ i = φ j → i = j
section
variable {t t' : Int → Int → Int} {φ : Int → Int} {S : List Int}
theorem nbM_rel (R : Rlb t t' φ S) {x : Int} {l l' : List Int} (hx : x ∈ S) (hl : ∀ y ∈ l, y ∈ S) (hp : l'.Perm (l.map φ)) : (nbM t' (φ x) l').Perm ((nbM t x l).map φ) := by
  unfold nbM
  refine (hp.filter _).trans ?_
  rw [List.filter_map]
  refine List.Perm.of_eq (congrArg _ (List.filter_congr fun y hy => ?_))
  show (decide (φ y ≠ φ x) && decide (t' (φ x) (φ y) ≠ 2)) = _
  rw [R.tt x hx y (hl y hy)]
  have : (φ y ≠ φ x) ↔ (y ≠ x) := ⟨fun h e => h (by rw [e]), fun h e => h (R.inj y (hl y hy) x hx e)⟩
  rw [decide_eq_decide.mpr this]
theorem woM_rel (R : Rlb t t' φ S) {x : Int} {l l' : List Int} (hx : x ∈ S) (hl : ∀ y ∈ l, y ∈ S) (hp : l'.Perm (l.map φ)) : (woM l' (φ x)).Perm ((woM l x).map φ) := by
  unfold woM
  refine (hp.filter _).trans ?_
  rw [List.filter_map]
  refine List.Perm.of_eq (congrArg _ (List.filter_congr fun y hy => ?_))
  have : (φ y ≠ φ x) ↔ (y ≠ x) := ⟨fun h e => h (by rw [e]), fun h e => h (R.inj y (hl y hy) x hx e)⟩
  exact decide_eq_decide.mpr this
theorem nbM_sub {x y : Int} {l : List Int} (h : y ∈ nbM t x l) : y ∈ l := (List.mem_filter.mp h).1
theorem woM_sub {x y : Int} {l : List Int} (h : y ∈ woM l x) : y ∈ l := (List.mem_filter.mp h).1
theorem chG_rel (R : Rlb t t' φ S) : ∀ (n : Nat) (x : Int) (l l' : List Int), x ∈ S → (∀ y ∈ l, y ∈ S) → l'.Perm (l.map φ) → chG t' n (φ x) l' = (chG t n x l).map (List.map φ)
  | 0, _, _, _, _, _, _ => rfl
  | n + 1, x, l, l', hx, hl, hp => by
    have hn := nbM_rel R hx hl hp
    unfold chG
    by_cases e : l = []
    · subst e
      have : l' = [] := List.perm_nil.mp hp
      subst this
      rfl
    · have e' : l' ≠ [] := fun z => by
        subst z
        have := hp.length_eq
        rw [List.length_map] at this
        exact e (List.length_eq_zero_iff.mp this.symm)
      rw [if_neg e, if_neg e']
      cases h : nbM t x l with
      | nil =>
        rw [h] at hn
        rw [List.perm_nil.mp hn]
        rfl
      | cons y r =>
        rw [h] at hn
        cases r with
        | nil =>
          rw [List.perm_singleton.mp hn]
          have hy : y ∈ l := nbM_sub (t := t) (x := x) (by rw [h]; exact List.mem_cons_self)
          show Option.map (φ y :: ·) (chG t' n (φ y) (woM l' (φ y))) = Option.map (List.map φ) (Option.map (y :: ·) (chG t n y (woM l y)))
          rw [chG_rel R n y _ _ (hl y hy) (fun z hz => hl z (woM_sub hz)) (woM_rel R (hl y hy) hl hp)]
          cases chG t n y (woM l y) <;> rfl
        | cons z r =>
          have hlen := hn.length_eq
          cases h' : nbM t' (φ x) l' with
          | nil => rfl
          | cons a r' =>
            cases r' with
            | nil => rw [h'] at hlen; simp at hlen
            | cons b r' => rfl
theorem chG_sub : ∀ {n : Nat} {x : Int} {l o : List Int}, chG t n x l = some o → ∀ y ∈ o, y ∈ l
  | 0, x, l, o, h, y, hy => by cases h; cases hy
  | n + 1, x, l, o, h, y, hy => by
    unfold chG at h
    split at h
    · cases h; cases hy
    · split at h
      · rename_i z e
        obtain ⟨o', e', rfl⟩ := Option.map_eq_some_iff.mp h
        rcases List.mem_cons.mp hy with rfl | hy
        · exact nbM_sub (t := t) (x := x) (by rw [e]; exact List.mem_cons_self)
        · exact woM_sub (chG_sub e' y hy)
      · cases h
theorem chainM_rel (R : Rlb t t' φ S) {ms ms' : List Int} {f : Int} (hf : f ∈ S) (hm : ∀ y ∈ ms, y ∈ S) (hp : ms'.Perm (ms.map φ)) : chainM t' ms' (φ f) = (chainM t ms f).map (List.map φ) := by
  unfold chainM
  have e : ms'.length = ms.length := by rw [hp.length_eq, List.length_map]
  rw [e, chG_rel R ms.length f (woM ms f) _ hf (fun y hy => hm y (woM_sub hy)) (woM_rel R hf hm hp)]
  cases chG t ms.length f (woM ms f) <;> rfl
theorem chainM_sub {ms o : List Int} {f : Int} (hf : f ∈ ms) (h : chainM t ms f = some o) : ∀ y ∈ o, y ∈ ms := by
  obtain ⟨o', e, rfl⟩ := Option.map_eq_some_iff.mp h
  intro y hy
  rcases List.mem_cons.mp hy with rfl | hy
  · exact hf
  · exact woM_sub (chG_sub e y hy)
theorem chains_rel (R : Rlb t t' φ S) {ms ms' : List Int} (hm : ∀ y ∈ ms, y ∈ S) (hp : ms'.Perm (ms.map φ)) {o' : List Int} : o' ∈ chainsM t' ms' ↔ ∃ o ∈ chainsM t ms, o' = o.map φ := by
  unfold chainsM
  rw [List.mem_filterMap]
  constructor
  · rintro ⟨f', hf', e⟩
    obtain ⟨f, hf, rfl⟩ := List.mem_map.mp (hp.subset hf')
    rw [chainM_rel R (hm f hf) hm hp] at e
    obtain ⟨o, e2, rfl⟩ := Option.map_eq_some_iff.mp e
    exact ⟨o, List.mem_filterMap.mpr ⟨f, hf, e2⟩, rfl⟩
  · rintro ⟨o, ho, rfl⟩
    obtain ⟨f, hf, e⟩ := List.mem_filterMap.mp ho
    refine ⟨φ f, hp.symm.subset (List.mem_map_of_mem hf), ?_⟩
    rw [chainM_rel R (hm f hf) hm hp, e]
    rfl
theorem chains_sub {ms o : List Int} (h : o ∈ chainsM t ms) : ∀ y ∈ o, y ∈ ms := by
  obtain ⟨f, hf, e⟩ := List.mem_filterMap.mp h
  exact chainM_sub hf e
theorem along_rel (R : Rlb t t' φ S) {o : List Int} (ho : ∀ y ∈ o, y ∈ S) : alongM t' (o.map φ) = alongM t o := by
  unfold alongM
  rw [← List.map_drop, List.zipWith_map]
  have : ∀ (a b : List Int), (∀ y ∈ a, y ∈ S) → (∀ y ∈ b, y ∈ S) → List.zipWith (fun x y => t' (φ x) (φ y)) a b = List.zipWith t a b := by
    intro a
    induction a with
    | nil => intro b _ _; simp
    | cons x a ih =>
      intro b ha hb
      cases b with
      | nil => simp
      | cons y b =>
        rw [List.zipWith_cons_cons, List.zipWith_cons_cons, R.tt x (ha x List.mem_cons_self) y (hb y List.mem_cons_self), ih b (fun z hz => ha z (List.mem_cons_of_mem _ hz)) (fun z hz => hb z (List.mem_cons_of_mem _ hz))]
  exact this o (o.drop 1) ho fun y hy => ho y (List.mem_of_mem_drop hy)
theorem kbes_rel (R : Rlb t t' φ S) {o : List Int} {y : Int} (ho : ∀ y ∈ o, y ∈ S) (hy : y ∈ S) : kbesM (o.map φ) (φ y) = kbesM o y := by
  have q : ∀ i : Nat, ((o.map φ)[i]? = some (φ y)) ↔ (o[i]? = some y) := fun i => by
    rw [List.getElem?_map]
    constructor
    · intro h
      obtain ⟨z, e, h⟩ := Option.map_eq_some_iff.mp h
      rw [e, R.inj z (ho z (List.mem_of_getElem? e)) y hy h]
    · intro h; rw [h]; rfl
  unfold kbesM
  rw [List.length_map]
  simp only [q]
theorem kcs_rel (R : Rlb t t' φ S) {ms ms' : List Int} (hm : ∀ y ∈ ms, y ∈ S) (hp : ms'.Perm (ms.map φ)) {k : Kd} : k ∈ kcsM t' ms' ↔ k ∈ kcsM t ms := by
  unfold kcsM
  rw [List.mem_map, List.mem_map]
  constructor
  · rintro ⟨o', ho', rfl⟩
    obtain ⟨o, ho, rfl⟩ := (chains_rel R hm hp).mp ho'
    exact ⟨o, ho, by rw [along_rel R fun y hy => hm y (chains_sub ho y hy)]⟩
  · rintro ⟨o, ho, rfl⟩
    exact ⟨o.map φ, (chains_rel R hm hp).mpr ⟨o, ho, rfl⟩, by rw [along_rel R fun y hy => hm y (chains_sub ho y hy)]⟩
theorem kes_one (R : Rlb t t' φ S) {ms ms' : List Int} (hm : ∀ y ∈ ms, y ∈ S) (hp : ms'.Perm (ms.map φ)) {e : Int} (he : e ∈ ms) {k : Kd} :
    (k ∈ (match nbM t' (φ e) ms' with | [y] => (chainsM t' (woM ms' (φ e))).map (fun o => kbesM o y) | _ => [])) ↔ (k ∈ (match nbM t e ms with | [y] => (chainsM t (woM ms e)).map (fun o => kbesM o y) | _ => [])) := by
  have hn := nbM_rel R (hm e he) hm hp
  cases h : nbM t e ms with
  | nil =>
    rw [h] at hn
    rw [List.perm_nil.mp hn]
  | cons y r =>
    rw [h] at hn
    cases r with
    | nil =>
      rw [List.perm_singleton.mp hn]
      have hy : y ∈ ms := nbM_sub (t := t) (x := e) (by rw [h]; exact List.mem_cons_self)
      have hw : ∀ z ∈ woM ms e, z ∈ S := fun z hz => hm z (woM_sub hz)
      have hpw := woM_rel R (hm e he) hm hp
      show k ∈ (chainsM t' (woM ms' (φ e))).map (fun o => kbesM o (φ y)) ↔ k ∈ (chainsM t (woM ms e)).map (fun o => kbesM o y)
      rw [List.mem_map, List.mem_map]
      constructor
      · rintro ⟨o', ho', rfl⟩
        obtain ⟨o, ho, rfl⟩ := (chains_rel R hw hpw).mp ho'
        exact ⟨o, ho, by rw [kbes_rel R (fun z hz => hw z (chains_sub ho z hz)) (hm y hy)]⟩
      · rintro ⟨o, ho, rfl⟩
        exact ⟨o.map φ, (chains_rel R hw hpw).mpr ⟨o, ho, rfl⟩, by rw [kbes_rel R (fun z hz => hw z (chains_sub ho z hz)) (hm y hy)]⟩
    | cons z r =>
      have hlen := hn.length_eq
      cases h' : nbM t' (φ e) ms' with
      | nil => exact Iff.rfl
      | cons a r' =>
        cases r' with
        | nil => rw [h'] at hlen; simp at hlen
        | cons b r' => exact Iff.rfl
theorem kes_rel (R : Rlb t t' φ S) {ms ms' : List Int} (hm : ∀ y ∈ ms, y ∈ S) (hp : ms'.Perm (ms.map φ)) {k : Kd} : k ∈ kesM t' ms' ↔ k ∈ kesM t ms := by
  unfold kesM
  rw [List.mem_flatMap, List.mem_flatMap]
  constructor
  · rintro ⟨e', he', h⟩
    obtain ⟨e, he, rfl⟩ := List.mem_map.mp (hp.subset he')
    exact ⟨e, he, (kes_one R hm hp he).mp h⟩
  · rintro ⟨e, he, h⟩
    exact ⟨φ e, hp.symm.subset (List.mem_map_of_mem he), (kes_one R hm hp he).mpr h⟩
theorem kall_rel (R : Rlb t t' φ S) {ms ms' : List Int} (hm : ∀ y ∈ ms, y ∈ S) (hp : ms'.Perm (ms.map φ)) {b : Bool} {k : Kd} : k ∈ kallM t' b ms' ↔ k ∈ kallM t b ms := by
  unfold kallM
  rw [List.mem_append, List.mem_append, kcs_rel R hm hp]
  cases b with
  | false => exact Iff.rfl
  | true => exact or_congr Iff.rfl (kes_rel R hm hp)
end
theorem kindL_of {l : List Kd} {c : Kd} (h : ∀ k ∈ l, k = (0, 0) ∨ k = c) (h' : c = (0, 0) ∨ c ∈ l) : kindL l = c := by
  unfold kindL
  split
  · rename_i k e
    have h1 := List.find?_some e
    rcases h k (List.mem_of_find?_eq_some e) with z | z
    · subst z; simp at h1
    · exact z
  · rename_i e
    rcases h' with z | z
    · exact z.symm
    · have := List.find?_eq_none.mp e c z
      exact Classical.byContradiction fun w => this (decide_eq_true fun v => w v.symm)
def chnT (ts : List Int) : List T3 := (List.zip (List.range ts.length) ts).map fun p => ((p.1 : Int), (p.1 : Int) + 1, p.2)
def starT (n : Nat) : List T3 := (List.range n).map fun (k : Nat) => (0, (k : Int) + 1, 3)
def r3 (n : Nat) : List Int := List.replicate n 3
abbrev Bk := Kd × List T3
def bksM : Nat → List Bk
  | 1 => [((1, 1), chnT [])]
  | 2 => [((1, 2), chnT [3]), ((2, 2), chnT [4]), ((9, 5), chnT [5]), ((9, 6), chnT [6]), ((0, 0), chnT [0])]
  | 3 => [((1, 3), chnT [3, 3]), ((2, 3), chnT [3, 4]), ((8, 3), chnT [3, 5]), ((0, 0), chnT [3, 0]), ((0, 0), chnT [5, 4]), ((0, 0), chnT [4, 4]), ((0, 0), chnT [3, 6]), ((0, 0), chnT [3, 3] ++ [(0, 2, 3)]), ((0, 0), chnT [5, 5])]
  | 4 => [((1, 4), chnT [3, 3, 3]), ((2, 4), chnT [3, 3, 4]), ((4, 4), chnT [3, 3] ++ [(1, 3, 3)]), ((8, 4), chnT [3, 3, 5]), ((6, 4), chnT [3, 4, 3]), ((0, 0), chnT [3, 3, 0]), ((0, 0), chnT [5, 3, 4]), ((0, 0), chnT [4, 3, 4]), ((0, 0), chnT [3, 3, 6]), ((0, 0), chnT [3, 3, 3] ++ [(0, 3, 3)]),
      ((0, 0), chnT [3, 3] ++ [(1, 3, 4)]), ((0, 0), chnT [3, 5, 3]), ((0, 0), starT 3 ++ [(1, 2, 3)])]
  | 5 => [((1, 5), chnT [3, 3, 3, 3]), ((2, 5), chnT [3, 3, 3, 4]), ((4, 5), chnT [3, 3, 3] ++ [(2, 4, 3)]), ((0, 0), chnT [3, 3, 3, 0]), ((0, 0), chnT [5, 3, 3, 4]), ((0, 0), chnT [4, 3, 3, 4]), ((0, 0), chnT [3, 3, 3, 6]), ((0, 0), chnT [3, 3, 3, 3] ++ [(0, 4, 3)]), ((0, 0), chnT [3, 3, 3, 5]),
      ((0, 0), chnT [3, 3, 3] ++ [(2, 4, 4)]), ((0, 0), chnT [3, 5, 3, 3]), ((0, 0), starT 4 ++ [(1, 2, 3)]), ((0, 0), starT 4)]
  | 6 => [((1, 6), chnT [3, 3, 3, 3, 3]), ((2, 6), chnT [3, 3, 3, 3, 4]), ((4, 6), chnT [3, 3, 3, 3] ++ [(3, 5, 3)]), ((5, 6), chnT [3, 3, 3, 3] ++ [(2, 5, 3)]), ((0, 0), chnT [3, 3, 3, 3, 0]), ((0, 0), chnT [5, 3, 3, 3, 4]), ((0, 0), chnT [4, 3, 3, 3, 4]), ((0, 0), chnT [3, 3, 3, 3, 6]), ((0, 0), chnT [3, 3, 3, 3, 3] ++ [(0, 5, 3)]), ((0, 0), chnT [3, 3, 3, 3, 5]),
      ((0, 0), chnT [3, 3, 3, 3] ++ [(3, 5, 4)]), ((0, 0), chnT [3, 5, 3, 3, 3]), ((0, 0), starT 5 ++ [(1, 2, 3)]), ((0, 0), starT 5)]
  | _ => []
def idx (n : Nat) : List Int := (List.range n).map fun (i : Nat) => (i : Int)
def thrM (ts : List T3) : Bool := ts.all fun u => decide (u.2.2 = 3)
def okB (k : Nat) (B : Bk) : Bool :=
  (B.2.all fun u => decide (0 ≤ u.1) && decide (u.1 < u.2.1) && decide (u.2.1 < k)) &&
  ((List.range k).all fun v => decide (v = 0) || (List.range v).any fun u => decide (turnM B.2 u v ≠ 2)) &&
  ((kallM (turnM B.2) (thrM B.2) (idx k)).all fun c => decide (c = (0, 0)) || decide (c = B.1)) &&
  (decide (B.1 = (0, 0)) || (kallM (turnM B.2) (thrM B.2) (idx k)).any fun c => decide (c = B.1))
theorem okB1 : ((bksM 1).all (okB 1)) = true := by decide +kernel
theorem okB2 : ((bksM 2).all (okB 2)) = true := by decide +kernel
theorem okB3 : ((bksM 3).all (okB 3)) = true := by decide +kernel
theorem okB4 : ((bksM 4).all (okB 4)) = true := by decide +kernel
theorem okB5 : ((bksM 5).all (okB 5)) = true := by decide +kernel
theorem okB6 : ((bksM 6).all (okB 6)) = true := by decide +kernel
theorem okB_all {k : Nat} {B : Bk} (h : B ∈ bksM k) : okB k B = true := by
  match k, h with
  | 0, h => cases h
  | 1, h => exact List.all_eq_true.mp okB1 B h
  | 2, h => exact List.all_eq_true.mp okB2 B h
  | 3, h => exact List.all_eq_true.mp okB3 B h
  | 4, h => exact List.all_eq_true.mp okB4 B h
  | 5, h => exact List.all_eq_true.mp okB5 B h
  | 6, h => exact List.all_eq_true.mp okB6 B h
  | n + 7, h => cases h
end GH
namespace GH
abbrev Blk := Nat × Bk
def shT (b : Int) (u : T3) : T3 := (b + u.1, b + u.2.1, u.2.2)
def btM : Int → List Blk → List T3
  | _, [] => []
  | b, B :: bs => B.2.2.map (shT b) ++ btM (b + B.1) bs
def posM : Int → List Blk → List (Int × Blk)
  | _, [] => []
  | b, B :: bs => (b, B) :: posM (b + B.1) bs
def totM : List Blk → Nat
  | [] => 0
  | B :: bs => B.1 + totM bs
def Fits (k : Nat) (ts : List T3) : Prop := ∀ u ∈ ts, 0 ≤ u.1 ∧ u.1 < u.2.1 ∧ u.2.1 < k
abbrev Hit (i j : Int) (u : T3) : Prop := u.1 = mlo i j ∧ u.2.1 = mhi i j
theorem turnM_no {i j : Int} : ∀ {ts : List T3}, (∀ u ∈ ts, ¬ Hit i j u) → turnM ts i j = 2
  | [], _ => rfl
  | u :: ts, h => by
    unfold turnM
    rw [if_neg (h u List.mem_cons_self), turnM_no fun v hv => h v (List.mem_cons_of_mem _ hv)]
theorem turnM_app_l {i j : Int} {b : List T3} (hb : ∀ u ∈ b, ¬ Hit i j u) : ∀ {a : List T3}, turnM (a ++ b) i j = turnM a i j
  | [] => turnM_no hb
  | u :: a => by
    rw [List.cons_append]
    unfold turnM
    rw [turnM_app_l hb]
theorem turnM_app_r {i j : Int} {b : List T3} : ∀ {a : List T3}, (∀ u ∈ a, ¬ Hit i j u) → turnM (a ++ b) i j = turnM b i j
  | [], _ => rfl
  | u :: a, h => by
    rw [List.cons_append]
    unfold turnM
    rw [if_neg (h u List.mem_cons_self), turnM_app_r fun v hv => h v (List.mem_cons_of_mem _ hv)]
    cases b <;> simp [turnM]
theorem turnM_map {f : T3 → T3} {i j i' j' : Int} : ∀ {ts : List T3}, (∀ u ∈ ts, (f u).2.2 = u.2.2 ∧ (Hit i' j' (f u) ↔ Hit i j u)) → turnM (ts.map f) i' j' = turnM ts i j
  | [], _ => rfl
  | u :: ts, h => by
    rw [List.map_cons]
    unfold turnM
    obtain ⟨h1, h2⟩ := h u List.mem_cons_self
    rw [turnM_map fun v hv => h v (List.mem_cons_of_mem _ hv), h1]
    by_cases c : Hit i j u
    · rw [if_pos (h2.mpr c), if_pos c]
    · rw [if_neg (fun z => c (h2.mp z)), if_neg c]
def In (p : Int × Blk) (x : Int) : Prop := p.1 ≤ x ∧ x < p.1 + p.2.1
theorem pos_lo : ∀ {bs : List Blk} {b : Int} {p : Int × Blk}, p ∈ posM b bs → b ≤ p.1 ∧ p.1 + p.2.1 ≤ b + totM bs
  | [], b, p, h => by cases h
  | B :: bs, b, p, h => by
    unfold totM
    rcases List.mem_cons.mp h with rfl | h
    · dsimp only; omega
    · have := pos_lo h; omega
theorem pos_at : ∀ {bs : List Blk} {b x : Int}, b ≤ x → x < b + totM bs → ∃ p ∈ posM b bs, In p x
  | [], b, x, h1, h2 => by unfold totM at h2; omega
  | B :: bs, b, x, h1, h2 => by
    unfold totM at h2
    by_cases c : x < b + B.1
    · exact ⟨(b, B), List.mem_cons_self, h1, c⟩
    · obtain ⟨p, hp, h⟩ := pos_at (bs := bs) (b := b + B.1) (x := x) (by omega) (by omega)
      exact ⟨p, List.mem_cons_of_mem _ hp, h⟩
theorem pos_one : ∀ {bs : List Blk} {b x : Int} {p q : Int × Blk}, p ∈ posM b bs → q ∈ posM b bs → In p x → In q x → p = q
  | [], b, x, p, q, h, _, _, _ => by cases h
  | B :: bs, b, x, p, q, hp, hq, h1, h2 => by
    unfold In at h1 h2
    rcases List.mem_cons.mp hp with rfl | hp <;> rcases List.mem_cons.mp hq with rfl | hq
    · rfl
    · have := pos_lo hq; dsimp only at h1; omega
    · have := pos_lo hp; dsimp only at h2; omega
    · exact pos_one hp hq h1 h2
theorem pos_mem : ∀ {bs : List Blk} {b : Int} {p : Int × Blk}, p ∈ posM b bs → p.2 ∈ bs
  | [], b, p, h => by cases h
  | B :: bs, b, p, h => by
    rcases List.mem_cons.mp h with rfl | h
    · exact List.mem_cons_self
    · exact List.mem_cons_of_mem _ (pos_mem h)
theorem bt_mem : ∀ {bs : List Blk} {b : Int} {u : T3}, u ∈ btM b bs ↔ ∃ p ∈ posM b bs, ∃ v ∈ p.2.2.2, u = shT p.1 v
  | [], b, u => by simp [btM, posM]
  | B :: bs, b, u => by
    unfold btM posM
    rw [List.mem_append, bt_mem, List.mem_map]
    constructor
    · rintro (⟨v, hv, rfl⟩ | ⟨p, hp, h⟩)
      · exact ⟨(b, B), List.mem_cons_self, v, hv, rfl⟩
      · exact ⟨p, List.mem_cons_of_mem _ hp, h⟩
    · rintro ⟨p, hp, v, hv, rfl⟩
      rcases List.mem_cons.mp hp with rfl | hp
      · exact .inl ⟨v, hv, rfl⟩
      · exact .inr ⟨p, hp, v, hv, rfl⟩
theorem hit_sh {b i j : Int} {u : T3} : Hit (b + i) (b + j) (shT b u) ↔ Hit i j u := by
  have m1 : mlo (b + i) (b + j) = b + mlo i j := by unfold mlo; split <;> split <;> omega
  have m2 : mhi (b + i) (b + j) = b + mhi i j := by unfold mhi; split <;> split <;> omega
  show b + u.1 = mlo (b + i) (b + j) ∧ b + u.2.1 = mhi (b + i) (b + j) ↔ _
  rw [m1, m2]
  exact and_congr ⟨fun h => by omega, fun h => by omega⟩ ⟨fun h => by omega, fun h => by omega⟩
theorem un_pair {a c d e : Int} : (mlo a c = mlo d e ∧ mhi a c = mhi d e) ↔ ((a = d ∧ c = e) ∨ (a = e ∧ c = d)) := by
  unfold mlo mhi
  split <;> split <;> split <;> split <;> omega
theorem turn_in : ∀ {bs : List Blk} {b : Int} {p : Int × Blk} {i j : Int}, (∀ B ∈ bs, Fits B.1 B.2.2) → p ∈ posM b bs → 0 ≤ i → i < p.2.1 → 0 ≤ j → j < p.2.1 → turnM (btM b bs) (p.1 + i) (p.1 + j) = turnM p.2.2.2 i j
  | [], b, p, i, j, _, h, _, _, _, _ => by cases h
  | B :: bs, b, p, i, j, hg, h, h1, h2, h3, h4 => by
    unfold btM
    rcases List.mem_cons.mp h with rfl | h
    · dsimp only at *
      rw [turnM_app_l]
      · exact turnM_map fun u _ => ⟨rfl, hit_sh⟩
      · intro u hu
        obtain ⟨q, hq, v, hv, rfl⟩ := bt_mem.mp hu
        have := pos_lo hq
        have f := hg q.2 (List.mem_cons_of_mem _ (pos_mem hq)) v hv
        unfold Hit shT mlo mhi
        dsimp only
        split <;> split <;> omega
    · rw [turnM_app_r, turn_in (fun C hC => hg C (List.mem_cons_of_mem _ hC)) h h1 h2 h3 h4]
      intro u hu
      obtain ⟨v, hv, rfl⟩ := List.mem_map.mp hu
      have := pos_lo h
      have f := hg B List.mem_cons_self v hv
      unfold Hit shT mlo mhi
      dsimp only
      split <;> split <;> omega
theorem bt_in {bs : List Blk} {b : Int} {u : T3} (hg : ∀ B ∈ bs, Fits B.1 B.2.2) (h : u ∈ btM b bs) : ∃ p ∈ posM b bs, In p u.1 ∧ In p u.2.1 ∧ u.1 < u.2.1 := by
  obtain ⟨p, hp, v, hv, rfl⟩ := bt_mem.mp h
  have f := hg p.2 (pos_mem hp) v hv
  exact ⟨p, hp, ⟨by unfold shT; dsimp only; omega, by unfold shT; dsimp only; omega⟩, ⟨by unfold shT; dsimp only; omega, by unfold shT; dsimp only; omega⟩, by unfold shT; dsimp only; omega⟩
theorem turn_out {bs : List Blk} {b x y : Int} {p : Int × Blk} (hg : ∀ B ∈ bs, Fits B.1 B.2.2) (hp : p ∈ posM b bs) (hx : In p x) (hy : ¬ In p y) : turnM (btM b bs) x y = 2 := by
  refine turnM_no fun u hu h => ?_
  obtain ⟨q, hq, q1, q2, q3⟩ := bt_in hg hu
  unfold Hit mlo mhi at h
  have : x = u.1 ∧ y = u.2.1 ∨ x = u.2.1 ∧ y = u.1 := by
    split at h <;> split at h <;> omega
  rcases this with ⟨e1, e2⟩ | ⟨e1, e2⟩
  · subst e1 e2
    exact hy (pos_one hp hq hx q1 ▸ q2)
  · subst e1 e2
    exact hy (pos_one hp hq hx q2 ▸ q1)
structure Rl (n : Nat) (σ : Int → Int) : Prop where
  inj : ∀ i j : Int, 0 ≤ i → i < n → 0 ≤ j → j < n → σ i = σ j → i = j
  rg : ∀ i : Int, 0 ≤ i → i < n → 0 ≤ σ i ∧ σ i < n
  sur : ∀ y : Int, 0 ≤ y → y < n → ∃ i : Int, 0 ≤ i ∧ i < n ∧ σ i = y
def rlT (σ : Int → Int) (u : T3) : T3 := (mlo (σ u.1) (σ u.2.1), mhi (σ u.1) (σ u.2.1), u.2.2)
theorem turn_rl {n : Nat} {σ : Int → Int} {ts : List T3} {i j : Int} (R : Rl n σ) (h : Fits n ts) (hi : 0 ≤ i) (hi' : i < n) (hj : 0 ≤ j) (hj' : j < n) : turnM (ts.map (rlT σ)) (σ i) (σ j) = turnM ts i j := by
  refine turnM_map fun u hu => ⟨rfl, ?_⟩
  obtain ⟨f1, f2, f3⟩ := h u hu
  have e1 : σ u.1 = σ i ↔ u.1 = i := ⟨R.inj _ _ (by omega) (by omega) (by omega) (by omega), fun e => by rw [e]⟩
  have e2 : σ u.1 = σ j ↔ u.1 = j := ⟨R.inj _ _ (by omega) (by omega) (by omega) (by omega), fun e => by rw [e]⟩
  have e3 : σ u.2.1 = σ i ↔ u.2.1 = i := ⟨R.inj _ _ (by omega) (by omega) (by omega) (by omega), fun e => by rw [e]⟩
  have e4 : σ u.2.1 = σ j ↔ u.2.1 = j := ⟨R.inj _ _ (by omega) (by omega) (by omega) (by omega), fun e => by rw [e]⟩
  have l1 : mlo u.1 u.2.1 = u.1 := by unfold mlo; exact if_neg (by omega)
  have l2 : mhi u.1 u.2.1 = u.2.1 := by unfold mhi; exact if_pos f2
  have l3 : Hit i j u ↔ (mlo u.1 u.2.1 = mlo i j ∧ mhi u.1 u.2.1 = mhi i j) := by rw [l1, l2]
  rw [l3, un_pair, ← e1, ← e2, ← e3, ← e4]
  exact un_pair
theorem fits_bt {bs : List Blk} (hg : ∀ B ∈ bs, Fits B.1 B.2.2) : Fits (totM bs) (btM 0 bs) := fun u hu => by
  obtain ⟨p, hp, h1, h2, h3⟩ := bt_in hg hu
  have := pos_lo hp
  unfold In at h1 h2
  omega
structure Hs (bs : List Blk) (σ : Int → Int) : Prop where
  gb : ∀ B ∈ bs, B.2 ∈ bksM B.1
  rl : Rl (totM bs) σ
def tsM (bs : List Blk) (σ : Int → Int) : List T3 := (btM 0 bs).map (rlT σ)
def blkL (σ : Int → Int) (p : Int × Blk) : List Int := (idx p.2.1).map fun i => σ (p.1 + i)
theorem mem_idx {n : Nat} {i : Int} : i ∈ idx n ↔ 0 ≤ i ∧ i < n := by
  unfold idx
  rw [List.mem_map]
  constructor
  · rintro ⟨k, hk, rfl⟩
    have := List.mem_range.mp hk
    omega
  · rintro ⟨h1, h2⟩
    exact ⟨i.toNat, List.mem_range.mpr (by omega), by omega⟩
theorem nodup_idx (n : Nat) : (idx n).Nodup := by
  unfold idx List.Nodup
  rw [List.pairwise_map]
  exact List.nodup_range.imp fun h e => h (by omega)
theorem okB_fits {k : Nat} {B : Bk} (h : B ∈ bksM k) : Fits k B.2 := fun u hu => by
  have h := okB_all h
  unfold okB at h
  rw [Bool.and_eq_true, Bool.and_eq_true, Bool.and_eq_true] at h
  have := List.all_eq_true.mp h.1.1.1 u hu
  simpa [and_assoc] using this
theorem okB_conn {k : Nat} {B : Bk} (h : B ∈ bksM k) {v : Nat} (hv : v < k) (h0 : v ≠ 0) : ∃ u : Nat, u < v ∧ turnM B.2 u v ≠ 2 := by
  have h := okB_all h
  unfold okB at h
  rw [Bool.and_eq_true, Bool.and_eq_true, Bool.and_eq_true] at h
  have := List.all_eq_true.mp h.1.1.2 v (List.mem_range.mpr hv)
  rw [Bool.or_eq_true] at this
  rcases this with z | z
  · exact absurd (of_decide_eq_true z) h0
  · obtain ⟨u, hu, z⟩ := List.any_eq_true.mp z
    exact ⟨u, List.mem_range.mp hu, of_decide_eq_true z⟩
theorem okB_kind {k : Nat} {B : Bk} (h : B ∈ bksM k) : (∀ c ∈ kallM (turnM B.2) (thrM B.2) (idx k), c = (0, 0) ∨ c = B.1) ∧ (B.1 = (0, 0) ∨ B.1 ∈ kallM (turnM B.2) (thrM B.2) (idx k)) := by
  have h := okB_all h
  unfold okB at h
  rw [Bool.and_eq_true, Bool.and_eq_true, Bool.and_eq_true] at h
  refine ⟨fun c hc => ?_, ?_⟩
  · have := List.all_eq_true.mp h.1.2 c hc
    rw [Bool.or_eq_true] at this
    exact this.imp of_decide_eq_true of_decide_eq_true
  · have := h.2
    rw [Bool.or_eq_true] at this
    refine this.imp of_decide_eq_true fun z => ?_
    obtain ⟨c, hc, e⟩ := List.any_eq_true.mp z
    rw [← of_decide_eq_true e]
    exact hc
section
variable {bs : List Blk} {σ : Int → Int} {p : Int × Blk}
theorem Hs.fits (h : Hs bs σ) : ∀ B ∈ bs, Fits B.1 B.2.2 := fun B hB => okB_fits (h.gb B hB)
theorem Hs.turn_in (h : Hs bs σ) (hp : p ∈ posM 0 bs) {i j : Int} (h1 : 0 ≤ i) (h2 : i < p.2.1) (h3 : 0 ≤ j) (h4 : j < p.2.1) : turnM (tsM bs σ) (σ (p.1 + i)) (σ (p.1 + j)) = turnM p.2.2.2 i j := by
  have := pos_lo hp
  unfold tsM
  rw [turn_rl h.rl (fits_bt h.fits) (by omega) (by omega) (by omega) (by omega), GH.turn_in h.fits hp h1 h2 h3 h4]
theorem mem_blkL {y : Int} : y ∈ blkL σ p ↔ ∃ x, In p x ∧ σ x = y := by
  unfold blkL
  rw [List.mem_map]
  constructor
  · rintro ⟨i, hi, rfl⟩
    rw [mem_idx] at hi
    exact ⟨_, ⟨by omega, by omega⟩, rfl⟩
  · rintro ⟨x, hx, rfl⟩
    unfold In at hx
    exact ⟨x - p.1, mem_idx.mpr ⟨by omega, by omega⟩, by congr 1; omega⟩
theorem Hs.turn_out (h : Hs bs σ) (hp : p ∈ posM 0 bs) {x y : Int} (hx : x ∈ blkL σ p) (hy : y ∉ blkL σ p) (h1 : 0 ≤ y) (h2 : y < totM bs) : turnM (tsM bs σ) x y = 2 := by
  obtain ⟨i, hi, rfl⟩ := mem_blkL.mp hx
  obtain ⟨j, hj, hj', rfl⟩ := h.rl.sur y h1 h2
  have := pos_lo hp
  unfold tsM
  unfold In at hi
  rw [turn_rl h.rl (fits_bt h.fits) (by omega) (by omega) (by omega) (by omega), GH.turn_out h.fits hp hi]
  exact fun z => hy (mem_blkL.mpr ⟨j, z, rfl⟩)
theorem Hs.rlb (h : Hs bs σ) (hp : p ∈ posM 0 bs) : Rlb (turnM p.2.2.2) (turnM (tsM bs σ)) (fun i => σ (p.1 + i)) (idx p.2.1) where
  tt := fun i hi j hj => by
    rw [mem_idx] at hi hj
    exact h.turn_in hp hi.1 hi.2 hj.1 hj.2
  inj := fun i hi j hj e => by
    rw [mem_idx] at hi hj
    have := pos_lo hp
    have := h.rl.inj _ _ (by omega) (by omega) (by omega) (by omega) e
    omega
theorem blkL_nodup (h : Hs bs σ) (hp : p ∈ posM 0 bs) : (blkL σ p).Nodup := by
  unfold blkL List.Nodup
  rw [List.pairwise_map]
  exact (nodup_idx p.2.1).imp_of_mem fun ha hb z e => z ((h.rlb hp).inj _ ha _ hb e)
theorem Hs.kind (h : Hs bs σ) (hp : p ∈ posM 0 bs) {ms : List Int} (hm : ms.Perm (blkL σ p)) : kindL (kallM (turnM (tsM bs σ)) (thrM p.2.2.2) ms) = p.2.2.1 := by
  obtain ⟨k1, k2⟩ := okB_kind (h.gb p.2 (pos_mem hp))
  have r := fun k => kall_rel (h.rlb hp) (fun y hy => hy) hm (b := thrM p.2.2.2) (k := k)
  refine kindL_of (fun k hk => k1 k ((r k).mp hk)) ?_
  exact k2.imp id fun z => (r _).mpr z
def thrP (ts : List T3) (ms : List Int) : Bool := (ts.filter fun u => decide (u.1 ∈ ms)).all fun u => decide (u.2.2 = 3)
theorem mlo_or (a b : Int) : mlo a b = a ∨ mlo a b = b := by unfold mlo; split <;> simp
theorem Hs.thr (h : Hs bs σ) (hp : p ∈ posM 0 bs) {ms : List Int} (hm : ms.Perm (blkL σ p)) : thrP (tsM bs σ) ms = thrM p.2.2.2 := by
  have hl := pos_lo hp
  unfold thrP thrM
  rw [Bool.eq_iff_iff, List.all_eq_true, List.all_eq_true]
  constructor
  · intro q v hv
    have f := h.fits p.2 (pos_mem hp) v hv
    refine q (rlT σ (shT p.1 v)) (List.mem_filter.mpr ⟨List.mem_map_of_mem (bt_mem.mpr ⟨p, hp, v, hv, rfl⟩), decide_eq_true (hm.mem_iff.mpr (mem_blkL.mpr ?_))⟩)
    show ∃ x, In p x ∧ σ x = mlo (σ (p.1 + v.1)) (σ (p.1 + v.2.1))
    rcases mlo_or (σ (p.1 + v.1)) (σ (p.1 + v.2.1)) with e | e <;> rw [e]
    · exact ⟨_, ⟨by omega, by omega⟩, rfl⟩
    · exact ⟨_, ⟨by omega, by omega⟩, rfl⟩
  · intro q u hu
    obtain ⟨hu, hd⟩ := List.mem_filter.mp hu
    obtain ⟨w, hw, rfl⟩ := List.mem_map.mp hu
    obtain ⟨r, hr, v, hv, rfl⟩ := bt_mem.mp hw
    have f := h.fits r.2 (pos_mem hr) v hv
    have hr' := pos_lo hr
    obtain ⟨x, hx, ex⟩ := mem_blkL.mp (hm.mem_iff.mp (of_decide_eq_true hd))
    have ex : σ x = mlo (σ (r.1 + v.1)) (σ (r.1 + v.2.1)) := ex
    have hx' := hx
    unfold In at hx'
    have e : r = p := by
      rcases mlo_or (σ (r.1 + v.1)) (σ (r.1 + v.2.1)) with e | e <;> rw [e] at ex
      · have := h.rl.inj _ _ (by omega) (by omega) (by omega) (by omega) ex
        subst this
        exact pos_one hr hp ⟨by omega, by omega⟩ hx
      · have := h.rl.inj _ _ (by omega) (by omega) (by omega) (by omega) ex
        subst this
        exact pos_one hr hp ⟨by omega, by omega⟩ hx
    subst e
    exact q v hv
end
def bfsM (t : Int → Int → Int) : Nat → List Int → List Int → Nat → List Int
  | 0, part, _, _ => part
  | n + 1, part, left, p => match part[p]? with
    | none => part
    | some x => bfsM t n (part ++ nbM t x left) (left.filter fun o => decide (o ∉ nbM t x left)) (p + 1)
theorem bfs_spec {t : Int → Int → Int} {R S : List Int} (hR : R.Nodup) (hS : ∀ x ∈ S, ∀ y ∈ R, y ∉ S → t x y = 2) :
    ∀ (n : Nat) (part left : List Int) (p : Nat), (part ++ left).Perm R → (∀ x ∈ part, x ∈ S) → (∀ q, q < p → ∀ x, part[q]? = some x → ∀ y ∈ left, t x y = 2) → R.length ≤ n + p →
      (∀ x ∈ part, x ∈ bfsM t n part left p) ∧ (bfsM t n part left p).Nodup ∧ (∀ x ∈ bfsM t n part left p, x ∈ S) ∧ ∀ x ∈ bfsM t n part left p, ∀ y ∈ R, y ∉ bfsM t n part left p → t x y = 2
  | n, part, left, p, h1, h2, h3, h4 => by
    have hn : (part ++ left).Nodup := h1.nodup_iff.mpr hR
    have hl := h1.length_eq
    rw [List.length_append] at hl
    have stop : part.length ≤ p → (∀ x ∈ part, x ∈ part) ∧ part.Nodup ∧ (∀ x ∈ part, x ∈ S) ∧ ∀ x ∈ part, ∀ y ∈ R, y ∉ part → t x y = 2 := fun hp => by
      refine ⟨fun _ h => h, (List.nodup_append.mp hn).1, h2, fun x hx y hy hy' => ?_⟩
      obtain ⟨q, hq, e⟩ := List.mem_iff_getElem.mp hx
      refine h3 q (by omega) x (by rw [List.getElem?_eq_getElem hq, e]) y ?_
      rcases List.mem_append.mp (h1.mem_iff.mpr hy) with z | z
      · exact absurd z hy'
      · exact z
    cases n with
    | zero => exact stop (by omega)
    | succ n =>
      unfold bfsM
      cases e : part[p]? with
      | none => exact stop (List.getElem?_eq_none_iff.mp e)
      | some x =>
        have hx : x ∈ part := List.mem_of_getElem? e
        have hf : ∀ o ∈ left, (decide (o ∉ nbM t x left)) = !(decide (o ≠ x) && decide (t x o ≠ 2)) := fun o ho => by
          have : o ∈ nbM t x left ↔ (decide (o ≠ x) && decide (t x o ≠ 2)) = true := by
            unfold nbM; rw [List.mem_filter]; exact ⟨fun z => z.2, fun z => ⟨ho, z⟩⟩
          cases c : (decide (o ≠ x) && decide (t x o ≠ 2)) with
          | true => rw [c] at this; simpa using this
          | false => rw [c] at this; simpa using this
        have hp' : ((part ++ nbM t x left) ++ left.filter fun o => decide (o ∉ nbM t x left)).Perm R := by
          rw [List.append_assoc]
          refine (List.Perm.append_left part ?_).trans h1
          rw [List.filter_congr hf]
          exact List.filter_append_perm _ _
        have hsub : ∀ y ∈ nbM t x left, y ∈ S := fun y hy => by
          unfold nbM at hy
          obtain ⟨hy, hd⟩ := List.mem_filter.mp hy
          rw [Bool.and_eq_true] at hd
          refine Classical.byContradiction fun z => of_decide_eq_true hd.2 (hS x (h2 x hx) y (h1.mem_iff.mp (List.mem_append_right _ hy)) z)
        obtain ⟨a1, a2, a3, a4⟩ := bfs_spec hR hS n (part ++ nbM t x left) (left.filter fun o => decide (o ∉ nbM t x left)) (p + 1) hp' (fun y hy => (List.mem_append.mp hy).elim (h2 y) (hsub y)) (fun q hq z ez y hy => by
            obtain ⟨hyl, hd⟩ := List.mem_filter.mp hy
            have hpl : p < part.length := (List.getElem?_eq_some_iff.mp e).1
            rw [List.getElem?_append_left (by omega)] at ez
            by_cases c : q = p
            · subst c
              rw [e] at ez
              cases ez
              rw [hf y hyl] at hd
              have hne : y ≠ x := fun z => by
                subst z
                exact (List.nodup_append.mp hn).2.2 y hx y hyl rfl
              simpa [hne] using hd
            · exact h3 q (by omega) z ez y hyl) (by omega)
        exact ⟨fun y hy => a1 y (List.mem_append_left _ hy), a2, a3, a4⟩
theorem perm_of_mem {a b : List Int} (ha : a.Nodup) (hb : b.Nodup) (h : ∀ x, x ∈ a ↔ x ∈ b) : a.Perm b := (List.perm_ext_iff_of_nodup ha hb).mpr h
def partM (t : Int → Int → Int) (n : Nat) (x : Int) : List Int := bfsM t n [x] (woM (idx n) x) 0
theorem part_perm {bs : List Blk} {σ : Int → Int} {p : Int × Blk} (h : Hs bs σ) (hp : p ∈ posM 0 bs) {x : Int} (hx : x ∈ blkL σ p) : (partM (turnM (tsM bs σ)) (totM bs) x).Perm (blkL σ p) := by
  have hl := pos_lo hp
  obtain ⟨i, hi, ei⟩ := mem_blkL.mp hx
  unfold In at hi
  have hR : x ∈ idx (totM bs) := by
    rw [mem_idx, ← ei]
    exact h.rl.rg i (by omega) (by omega)
  have hwo : ([x] ++ woM (idx (totM bs)) x).Perm (idx (totM bs)) := by
    refine perm_of_mem ?_ (nodup_idx _) fun y => ?_
    · rw [List.singleton_append, List.nodup_cons]
      refine ⟨fun z => ?_, (nodup_idx _).filter _⟩
      unfold woM at z
      simpa using (List.mem_filter.mp z).2
    · rw [List.singleton_append, List.mem_cons]
      unfold woM
      rw [List.mem_filter]
      constructor
      · rintro (rfl | z)
        · exact hR
        · exact z.1
      · intro z
        by_cases c : y = x
        · exact .inl c
        · exact .inr ⟨z, decide_eq_true c⟩
  obtain ⟨a1, a2, a3, a4⟩ := bfs_spec (t := turnM (tsM bs σ)) (S := blkL σ p) (nodup_idx (totM bs)) (fun y hy z hz hz' => h.turn_out hp hy hz' (mem_idx.mp hz).1 (mem_idx.mp hz).2) (totM bs) [x] (woM (idx (totM bs)) x) 0 hwo (fun y hy => by rw [List.mem_singleton.mp hy]; exact hx) (fun q hq => by omega) (by unfold idx; simp)
  unfold partM
  refine perm_of_mem a2 (blkL_nodup h hp) fun y => ⟨a3 y, fun hy => ?_⟩
  have step : ∀ u v : Nat, u < p.2.1 → v < p.2.1 → turnM p.2.2.2 u v ≠ 2 → σ (p.1 + u) ∈ bfsM (turnM (tsM bs σ)) (totM bs) [x] (woM (idx (totM bs)) x) 0 → σ (p.1 + v) ∈ bfsM (turnM (tsM bs σ)) (totM bs) [x] (woM (idx (totM bs)) x) 0 := fun u v hu hv ht hm => by
    refine Classical.byContradiction fun z => ht ?_
    rw [← h.turn_in hp (i := u) (j := v) (by omega) (by omega) (by omega) (by omega)]
    refine a4 _ hm _ ?_ z
    rw [mem_idx]
    exact h.rl.rg _ (by omega) (by omega)
  have down : ∀ v : Nat, v < p.2.1 → σ (p.1 + v) ∈ bfsM (turnM (tsM bs σ)) (totM bs) [x] (woM (idx (totM bs)) x) 0 → σ (p.1 + (0 : Nat)) ∈ bfsM (turnM (tsM bs σ)) (totM bs) [x] (woM (idx (totM bs)) x) 0 := by
    intro v
    induction v using Nat.strongRecOn with
    | _ v ih =>
      intro hv hm
      by_cases c : v = 0
      · subst c; exact hm
      · obtain ⟨u, hu, ht⟩ := okB_conn (h.gb p.2 (pos_mem hp)) hv c
        exact ih u hu (by omega) (step v u hv (by omega) (by rw [turnM_comm]; exact ht) hm)
  have up : ∀ v : Nat, v < p.2.1 → σ (p.1 + v) ∈ bfsM (turnM (tsM bs σ)) (totM bs) [x] (woM (idx (totM bs)) x) 0 := by
    intro v
    induction v using Nat.strongRecOn with
    | _ v ih =>
      intro hv
      by_cases c : v = 0
      · subst c
        refine down (i - p.1).toNat (by omega) ?_
        have : p.1 + (((i - p.1).toNat : Nat) : Int) = i := by omega
        rw [this, ei]
        exact a1 x List.mem_cons_self
      · obtain ⟨u, hu, ht⟩ := okB_conn (h.gb p.2 (pos_mem hp)) hv c
        exact step u v (by omega) hv ht (ih u hu (by omega))
  obtain ⟨j, hj, rfl⟩ := mem_blkL.mp hy
  unfold In at hj
  have := up (j - p.1).toNat (by omega)
  have e : p.1 + (((j - p.1).toNat : Nat) : Int) = j := by omega
  rwa [e] at this
end GH
namespace GH
open FL
theorem sortI_of {a b : List Int} (h : a.Perm b) : sortI a = sortI b := perm_eq ((sortI_perm a).trans (h.trans (sortI_perm b).symm)) (sortI_sorted a) (sortI_sorted b)
def rowK (P : List Int) (s : PySem.Str) : HR := ((P.headD 0, P.tail), s)
theorem asc_ext {a b : List HR} (ha : a.Pairwise fun x y => x.1.1 < y.1.1) (hb : b.Pairwise fun x y => x.1.1 < y.1.1) (h : ∀ r, r ∈ a ↔ r ∈ b) : a = b := by
  have na : a.Nodup := ha.imp fun z e => by rw [e] at z; omega
  have nb : b.Nodup := hb.imp fun z e => by rw [e] at z; omega
  refine asc_eq ((List.perm_ext_iff_of_nodup na nb).mpr h) ?_ (ha.imp fun z => by omega) (hb.imp fun z => by omega)
  unfold List.Nodup
  rw [List.pairwise_map]
  exact ha.imp fun z e => by omega
theorem idx_asc (n : Nat) : (idx n).Pairwise (· < ·) := by
  unfold idx
  rw [List.pairwise_map]
  exact List.pairwise_lt_range.imp fun h => by omega
theorem pos_asc : ∀ (bs : List Blk) (b : Int), (posM b bs).Pairwise fun (p q : Int × Blk) => p.1 + (p.2.1 : Int) ≤ q.1
  | [], _ => .nil
  | B :: bs, b => List.pairwise_cons.mpr ⟨fun q hq => (pos_lo hq).1, pos_asc bs _⟩
section
variable {bs : List Blk} {σ : Int → Int} {p : Int × Blk} (kT : Kd → PySem.Str)
def rowP (σ : Int → Int) (p : Int × Blk) : HR := rowK (sortI (blkL σ p)) (kT p.2.2.1)
def kindsM (n : Nat) (ts : List T3) : List HR := (idx n).filterMap fun x => if (sortI (partM (turnM ts) n x)).headD 0 = x then some (rowK (sortI (partM (turnM ts) n x)) (kT (kindL (kallM (turnM ts) (thrP ts (sortI (partM (turnM ts) n x))) (sortI (partM (turnM ts) n x)))))) else none
theorem Hs.pos (h : Hs bs σ) (hp : p ∈ posM 0 bs) : 0 < p.2.1 := by
  have := h.gb p.2 (pos_mem hp)
  cases e : p.2.1 with
  | zero => rw [e] at this; cases this
  | succ n => omega
theorem Hs.head (h : Hs bs σ) (hp : p ∈ posM 0 bs) : ∃ x r, sortI (blkL σ p) = x :: r ∧ x ∈ blkL σ p := by
  have h1 : (sortI (blkL σ p)).length = p.2.1 := by
    rw [(sortI_perm _).length_eq]
    unfold blkL idx
    simp
  have h2 := h.pos hp
  cases e : sortI (blkL σ p) with
  | nil => rw [e] at h1; simp at h1; omega
  | cons x r => exact ⟨x, r, rfl, (sortI_perm _).subset (by rw [e]; exact List.mem_cons_self)⟩
theorem Hs.due_asc (h : Hs bs σ) : (((posM 0 bs).map (rowP kT σ)).map fun r : HR => r.1.1).Nodup := by
  unfold List.Nodup
  rw [List.map_map, List.pairwise_map]
  refine (pos_asc bs 0).imp_of_mem fun {p q} hp hq z e => ?_
  obtain ⟨x, r, e1, hx⟩ := h.head hp
  obtain ⟨y, r', e2, hy⟩ := h.head hq
  have e : (sortI (blkL σ p)).headD 0 = (sortI (blkL σ q)).headD 0 := e
  rw [e1, e2] at e
  have e : x = y := e
  subst e
  obtain ⟨i, hi, ei⟩ := mem_blkL.mp hx
  obtain ⟨j, hj, ej⟩ := mem_blkL.mp hy
  unfold In at hi hj
  have l1 := pos_lo hp
  have l2 := pos_lo hq
  have := h.rl.inj i j (by omega) (by omega) (by omega) (by omega) (by rw [ei, ej])
  omega
theorem Hs.row (h : Hs bs σ) (hp : p ∈ posM 0 bs) {x : Int} (hx : x ∈ blkL σ p) : sortI (partM (turnM (tsM bs σ)) (totM bs) x) = sortI (blkL σ p) ∧
    kindL (kallM (turnM (tsM bs σ)) (thrP (tsM bs σ) (sortI (blkL σ p))) (sortI (blkL σ p))) = p.2.2.1 := by
  refine ⟨sortI_of (part_perm h hp hx), ?_⟩
  rw [h.thr hp (sortI_perm _), h.kind hp (sortI_perm _)]
theorem kinds_due (h : Hs bs σ) : kindsM kT (totM bs) (tsM bs σ) = sortH ((posM 0 bs).map (rowP kT σ)) := by
  have hn := h.due_asc kT
  refine asc_ext ?_ ?_ fun r => ?_
  · unfold kindsM
    refine (idx_asc (totM bs)).filterMap _ fun x y hxy r hr r' hr' => ?_
    split at hr
    · rename_i e
      split at hr'
      · rename_i e'
        cases hr
        cases hr'
        show (sortI _).headD 0 < (sortI _).headD 0
        rw [e, e']
        exact hxy
      · cases hr'
    · cases hr
  · have h1 := sortH_sorted ((posM 0 bs).map (rowP kT σ))
    have h2 : ((sortH ((posM 0 bs).map (rowP kT σ))).map fun r : HR => r.1.1).Nodup := ((sortH_perm _).map _).nodup_iff.mpr hn
    unfold List.Nodup at h2
    rw [List.pairwise_map] at h2
    refine (h1.and h2).imp fun {a b} z => ?_
    have := z.1
    have := z.2
    omega
  · rw [(sortH_perm _).mem_iff, List.mem_map]
    unfold kindsM
    rw [List.mem_filterMap]
    constructor
    · rintro ⟨x, hx, e⟩
      rw [mem_idx] at hx
      obtain ⟨i, hi, hi', rfl⟩ := h.rl.sur x hx.1 hx.2
      obtain ⟨p, hp, hpi⟩ := pos_at (bs := bs) (b := 0) (x := i) (by omega) (by omega)
      have hx' : σ i ∈ blkL σ p := mem_blkL.mpr ⟨i, hpi, rfl⟩
      obtain ⟨r1, r2⟩ := h.row hp hx'
      rw [r1, r2] at e
      split at e
      · cases e
        exact ⟨p, hp, rfl⟩
      · cases e
    · rintro ⟨p, hp, rfl⟩
      obtain ⟨x, r, e, hx⟩ := h.head hp
      obtain ⟨r1, r2⟩ := h.row hp hx
      have hl := pos_lo hp
      obtain ⟨i, hi, ei⟩ := mem_blkL.mp hx
      unfold In at hi
      refine ⟨x, ?_, ?_⟩
      · rw [mem_idx, ← ei]
        exact h.rl.rg i (by omega) (by omega)
      · rw [r1, r2, if_pos (by rw [e]; rfl)]
        rfl
end
end GH
namespace Pk61
open PySem PySem.Spec PyProof.Rows L2 FL
def top (i : Nat) : Stmt := PySem.Challenge.pw_mirrorhouse_k61_kinds.main.body.getD i (.Pass ⟨0, 0, 0, 0⟩)
abbrev s_turn_of : Stmt := top 2
abbrev s_neighbours : Stmt := top 7
abbrev s_without : Stmt := top 8
abbrev s_part_of : Stmt := top 9
abbrev s_parts : Stmt := top 10
abbrev s_chain_from : Stmt := top 11
abbrev s_chains : Stmt := top 12
abbrev s_turns_along : Stmt := top 13
abbrev s_kind_of_chain : Stmt := top 14
abbrev s_kind_with_one_beside : Stmt := top 15
abbrev s_kinds_by_chains : Stmt := top 16
abbrev s_all_by_three : Stmt := top 17
abbrev s_kinds_by_ends : Stmt := top 18
abbrev s_kind_of : Stmt := top 19
abbrev s_kinds : Stmt := top 20
abbrev s_l_at : Stmt := top 22
abbrev s_l_mix : Stmt := top 23
abbrev s_l_whole : Stmt := top 24
abbrev s_l_chain : Stmt := top 25
abbrev s_l_finite : Stmt := top 26
abbrev s_l_never : Stmt := top 27
abbrev s_l_built : Stmt := top 28
abbrev s_l_mixed : Stmt := top 29
abbrev s_l_same : Stmt := top 30
abbrev s_law : Stmt := top 31
structure Txt (K : PySem.W.Frag) (mg : Str → Option Value) : Prop where
  base : True
  all_b : mg "all" = none
  bool_b : mg "bool" = none
  enumerate_b : mg "enumerate" = none
  int_b : mg "int" = none
  isinstance_b : mg "isinstance" = none
  len_b : mg "len" = none
  list_b : mg "list" = none
  max_b : mg "max" = none
  min_b : mg "min" = none
  range_b : mg "range" = none
  sorted_b : mg "sorted" = none
  str_b : mg "str" = none
  tuple_b : mg "tuple" = none
  zip_b : mg "zip" = none
  COMMON_TURN_c : ∃ t, mg "COMMON_TURN" = some (Value.int 3 t)
  NOT_TOLD_c : ∃ t, mg "NOT_TOLD" = some (Value.int 2 t)
  NO_KIND_c : ∃ t, mg "NO_KIND" = some (Value.str "-" t)
  RARE_CHAINS_c : GDictT K mg "RARE_CHAINS" [([3, 4, 3], (.str "f4")), ([3, 5], (.str "h3")), ([3, 3, 5], (.str "h4")), ([5], (.str "i5")), ([6], (.str "i6"))]
noncomputable def F_turn_of : FS := (seqF (asgF 3 (appF minD (consA (vF 1) (consA (vF 2) nilA)))) (seqF (asgF 4 (appF maxD (consA (vF 1) (consA (vF 2) nilA)))) (seqF (forF (seqItems (bind2 ixD (vF 0) (cF (.int 1)))) (tupG 3 (consG (nameG 5) (consG (nameG 6) (consG (nameG 7) nilG)))) (ifS (andT (blF (bind2 eqF (vF 5) (vF 3))) (blF (bind2 eqF (vF 6) (vF 4)))) (retF (vF 7)) nxF)) (retF (cF (.int 2))))))
noncomputable def g_turn_of : List D → Option D := denF 8 F_turn_of
theorem sc_turn_of : FnScope ["house", "i", "j", "lesser", "greater", "first", "second", "m"] ["house", "i", "j"] (defScope s_turn_of) := ⟨rfl, rfl, rfl, by decide +kernel, rfl, by decide +kernel, by decide +kernel⟩
theorem ok_turn_of {P : Program} {w : World} {K : PySem.W.Frag} {mg : Str → Option Value} {base : Heap} {f : Addr} {fd : FuncData} (Fn : Fun K "turn_of" "turn_of" s_turn_of f fd) (T : Txt K mg)  :
    FnOk P w K mg base CX0 1 f fd ["house", "i", "j"] (spF K 3 g_turn_of) :=
  fn_den (k := 0) (m := 8) (F := F_turn_of) rfl rfl Fn sc_turn_of fun cdv A outer s H E hr => (dss_cons (ds_asg 3 sc_turn_of.nd (d_callB (call_min2 rfl) fnR_min rfl T.min_b (by rfl) (dar_cons (DE.dr (dv 1)) (dar_cons (DE.dr (dv 2)) dar_nil)))) (dss_cons (ds_asg 4 sc_turn_of.nd (d_callB (call_max2 rfl) fnR_max rfl T.max_b (by rfl) (dar_cons (DE.dr (dv 1)) (dar_cons (DE.dr (dv 2)) dar_nil)))) (dss_cons (ds_for PassesOwn.never rfl (di_seq (d_ix (DE.dr (dv 0)) (DE.dr d_int))) (dg_tup rfl (dgs_cons (dg_name 5 sc_turn_of.nd) (dgs_cons (dg_name 6 sc_turn_of.nd) (dgs_cons (dg_name 7 sc_turn_of.nd) dgs_nil)))) (dss_one (ds_if (DW.dt (dw_and (dt_eq hr (DE.dr (dv 5)) (DE.dr (dv 3))) (dw_and1 (dt_eq hr (DE.dr (dv 6)) (DE.dr (dv 4)))))) (dss_one (ds_ret (dv 7))) dss_nil))) (dss_one (ds_ret (d_gint rfl T.NOT_TOLD_c))))))
noncomputable def F_neighbours : FS := (retF (mapLst (compF 1 [1, 0] (seqItems (vF 2)) (nameG 0) (andT (blF (bind2 neF (vF 0) (vF 1))) (blF (bind2 neF (appF g_turn_of (consA (vF 2) (consA (vF 1) (consA (vF 0) nilA)))) (cF (.int 2))))) (vF 0))))
noncomputable def g_neighbours : List D → Option D := denF 3 F_neighbours
theorem sc_neighbours : FnScope ["house", "mirror", "others"] ["house", "mirror", "others"] (defScope s_neighbours) := ⟨rfl, rfl, rfl, by decide +kernel, rfl, by decide +kernel, by decide +kernel⟩
theorem ok_neighbours {P : Program} {w : World} {K : PySem.W.Frag} {mg : Str → Option Value} {base : Heap} {f : Addr} {fd : FuncData} (Fn : Fun K "neighbours" "neighbours" s_neighbours f fd) (T : Txt K mg) (h_turn_of : HasFn P w K mg base 1 "turn_of" 3 g_turn_of) :
    FnOk P w K mg base CX0 2 f fd ["house", "mirror", "others"] (spF K 3 g_neighbours) :=
  fn_den (k := 1) (m := 3) (F := F_neighbours) rfl rfl Fn sc_neighbours fun cdv A outer s H E hr => (dss_one (ds_ret (DN.de (dn_comp (own := ["other"]) (frees := ["mirror", "house"]) (caps := [1, 0]) rfl (.of (by kernel_rfl)) rfl kn_name (di_seq (dv 2)) (fun cl C s H fp => ⟨(dg_name 0 (show List.Nodup (["other", "mirror", "house"] : List Str) from by decide +kernel)), (dq_one (DW.dt (dw_and (dt_ne hr (DE.dr (dv 0)) (DE.dr (dv 1))) (dw_and1 (dt_ne hr (DE.dr (d_callH h_turn_of (hr.mono (by decide)) rfl (da_cons (dv 2) (da_cons (dv 1) (da_cons (dv 0) da_nil))) (lenAS (lenAS (lenAS lenA0))))) (DE.dr (d_gint rfl T.NOT_TOLD_c))))))), (dv 0)⟩)))))
noncomputable def F_without : FS := (retF (mapLst (compF 1 [1] (seqItems (vF 0)) (nameG 0) (blF (bind2 neF (vF 0) (vF 1))) (vF 0))))
noncomputable def g_without : List D → Option D := denF 2 F_without
theorem sc_without : FnScope ["mirrors", "mirror"] ["mirrors", "mirror"] (defScope s_without) := ⟨rfl, rfl, rfl, by decide +kernel, rfl, by decide +kernel, by decide +kernel⟩
theorem ok_without {P : Program} {w : World} {K : PySem.W.Frag} {mg : Str → Option Value} {base : Heap} {f : Addr} {fd : FuncData} (Fn : Fun K "without" "without" s_without f fd) (T : Txt K mg)  :
    FnOk P w K mg base CX0 1 f fd ["mirrors", "mirror"] (spF K 2 g_without) :=
  fn_den (k := 0) (m := 2) (F := F_without) rfl rfl Fn sc_without fun cdv A outer s H E hr => (dss_one (ds_ret (DN.de (dn_comp (own := ["other"]) (frees := ["mirror"]) (caps := [1]) rfl (.of (by kernel_rfl)) rfl kn_name (di_seq (dv 0)) (fun cl C s H fp => ⟨(dg_name 0 (show List.Nodup (["other", "mirror"] : List Str) from by decide +kernel)), (dq_one (dt_ne hr (DE.dr (dv 0)) (DE.dr (dv 1)))), (dv 0)⟩)))))
noncomputable def F_part_of : FS := (seqF (asgN 2 (lstF (consA (vF 1) nilA))) (seqF (asgF 3 (appF g_without (consA (mapLst (rngN1 (consA (bind2 ixD (vF 0) (cF (.int 0))) nilA))) (consA (vF 1) nilA)))) (seqF (asgF 4 (cF (.int 0))) (seqF (whileF (blF (bind2 ltD (vF 4) (appF lenD (consA (vR 2) nilA)))) (seqF (asgF 5 (appF g_neighbours (consA (vF 0) (consA (bind2 ixD (vR 2) (vF 4)) (consA (vF 3) nilA))))) (seqF (extendF 2 (vF 5)) (seqF (asgF 3 (mapLst (compF 1 [5] (seqItems (vF 3)) (nameG 0) (blF (bind2 (inD true) (vF 0) (vF 1))) (vF 0)))) (augF 4 (fun i j => i + j) (cF (.int 1)))))) 100000) (retF (mapLst (sortN (consA (vR 2) nilA))))))))
noncomputable def g_part_of : List D → Option D := denF 6 F_part_of
theorem sc_part_of : FnScope ["house", "mirror", "part", "left", "place", "near"] ["house", "mirror"] (defScope s_part_of) := ⟨rfl, rfl, rfl, by decide +kernel, rfl, by decide +kernel, by decide +kernel⟩
theorem ok_part_of {P : Program} {w : World} {K : PySem.W.Frag} {mg : Str → Option Value} {base : Heap} {f : Addr} {fd : FuncData} (Fn : Fun K "part_of" "part_of" s_part_of f fd) (T : Txt K mg) (h_neighbours : HasFn P w K mg base 2 "neighbours" 3 g_neighbours) (h_without : HasFn P w K mg base 1 "without" 2 g_without) :
    FnOk P w K mg base CX0 3 f fd ["house", "mirror"] (spF K 2 g_part_of) :=
  fn_den (k := 2) (m := 6) (F := F_part_of) rfl rfl Fn sc_part_of fun cdv A outer s H E hr => (dss_cons (ds_asgN 2 sc_part_of.nd (dn_lst (da_cons (dv 1) da_nil))) (dss_cons (ds_asg 3 sc_part_of.nd (d_callH h_without (hr.mono (by decide)) rfl (da_cons (DN.de (dn_listR1 rfl rfl T.list_b rfl T.range_b (dar_cons (DE.dr (d_ix (DE.dr (dv 0)) (DE.dr d_int))) dar_nil))) (da_cons (dv 1) da_nil)) (lenAS (lenAS lenA0)))) (dss_cons (ds_asg 4 sc_part_of.nd d_int) (dss_cons (ds_while 100000 PassesOwn.never (dt_lt (DE.dr (dv 4)) (DE.dr (d_callB call_lenG fnR_len rfl T.len_b (by rfl) (dar_cons (dvr 2) dar_nil)))) (dss_cons (ds_asg 5 sc_part_of.nd (d_callH h_neighbours (hr.mono (by decide)) rfl (da_cons (dv 0) (da_cons (d_ix (dvr 2) (DE.dr (dv 4))) (da_cons (dv 3) da_nil))) (lenAS (lenAS (lenAS lenA0))))) (dss_cons (ds_extend 2 (dv 5)) (dss_cons (ds_asgComp 3 sc_part_of.nd (own := ["other"]) (frees := ["near"]) (caps := [5]) rfl (.of (by kernel_rfl)) rfl kn_name (di_seq (dv 3)) (fun cl C s H fp => ⟨(dg_name 0 (show List.Nodup (["other", "near"] : List Str) from by decide +kernel)), (dq_one (dt_notin hr (DE.dr (dv 0)) (DE.dr (dv 1)))), (dv 0)⟩)) (dss_one (ds_augI 4 sc_part_of.nd ip_add d_int)))))) (dss_one (ds_ret (DN.de (dn_sorted rfl T.sorted_b (dar_cons (dvr 2) dar_nil)))))))))
noncomputable def F_parts : FS := (seqF (asgF 1 (mapLst (compF 1 [0] (rng1 (consA (bind2 ixD (vF 0) (cF (.int 0))) nilA)) (nameG 0) ttF (appF g_part_of (consA (vF 1) (consA (vF 0) nilA)))))) (retF (mapLst (compF 2 [] (itemsE (vF 1)) (tupG 2 (consG (nameG 0) (consG (nameG 1) nilG))) (blF (bind2 eqF (bind2 ixD (vF 1) (cF (.int 0))) (vF 0))) (vF 1)))))
noncomputable def g_parts : List D → Option D := denF 2 F_parts
theorem sc_parts : FnScope ["house", "reached"] ["house"] (defScope s_parts) := ⟨rfl, rfl, rfl, by decide +kernel, rfl, by decide +kernel, by decide +kernel⟩
theorem ok_parts {P : Program} {w : World} {K : PySem.W.Frag} {mg : Str → Option Value} {base : Heap} {f : Addr} {fd : FuncData} (Fn : Fun K "parts" "parts" s_parts f fd) (T : Txt K mg) (h_part_of : HasFn P w K mg base 3 "part_of" 2 g_part_of) :
    FnOk P w K mg base CX0 4 f fd ["house"] (spF K 1 g_parts) :=
  fn_den (k := 3) (m := 2) (F := F_parts) rfl rfl Fn sc_parts fun cdv A outer s H E hr => (dss_cons (ds_asgComp 1 sc_parts.nd (own := ["mirror"]) (frees := ["house"]) (caps := [0]) rfl (.of (by kernel_rfl)) rfl kn_name (di_range1 rfl T.range_b (dar_cons (DE.dr (d_ix (DE.dr (dv 0)) (DE.dr d_int))) dar_nil)) (fun cl C s H fp => ⟨(dg_name 0 (show List.Nodup (["mirror", "house"] : List Str) from by decide +kernel)), dq_nil, (d_callH h_part_of (hr.mono (by decide)) rfl (da_cons (dv 1) (da_cons (dv 0) da_nil)) (lenAS (lenAS lenA0)))⟩)) (dss_one (ds_ret (DN.de (dn_comp (own := ["mirror", "part"]) (frees := []) (caps := []) rfl (.of (by kernel_rfl)) rfl (kn_tup (kns_cons kn_name (kns_cons kn_name kns_nil))) (di_enum rfl T.enumerate_b (dv 1)) (fun cl C s H fp => ⟨(dg_tup rfl (dgs_cons (dg_name 0 (show List.Nodup (["mirror", "part"] : List Str) from by decide +kernel)) (dgs_cons (dg_name 1 (show List.Nodup (["mirror", "part"] : List Str) from by decide +kernel)) dgs_nil))), (dq_one (dt_eq hr (DE.dr (d_ix (DE.dr (dv 1)) (DE.dr d_int))) (DE.dr (dv 0)))), (dv 1)⟩))))))
noncomputable def F_chain_from : FS := (seqF (asgN 3 (lstF (consA (vF 2) nilA))) (seqF (asgF 4 (appF g_without (consA (vF 1) (consA (vF 2) nilA)))) (seqF (whileF (blF (bind2 gtD (appF lenD (consA (vF 4) nilA)) (cF (.int 0)))) (seqF (asgF 5 (appF g_neighbours (consA (vF 0) (consA (bind2 ixD (vR 3) (bind1 negD (cF (.int 1)))) (consA (vF 4) nilA))))) (seqF (ifS (blF (bind2 neF (appF lenD (consA (vF 5) nilA)) (cF (.int 1)))) (retF (cF .non)) nxF) (seqF (appendF 3 (bind2 ixD (vF 5) (cF (.int 0)))) (asgF 4 (appF g_without (consA (vF 4) (consA (bind2 ixD (vF 5) (cF (.int 0))) nilA))))))) 100000) (frzF 3 (retF (vF 3))))))
noncomputable def g_chain_from : List D → Option D := denF 6 F_chain_from
theorem sc_chain_from : FnScope ["house", "mirrors", "first", "order", "left", "near"] ["house", "mirrors", "first"] (defScope s_chain_from) := ⟨rfl, rfl, rfl, by decide +kernel, rfl, by decide +kernel, by decide +kernel⟩
theorem ok_chain_from {P : Program} {w : World} {K : PySem.W.Frag} {mg : Str → Option Value} {base : Heap} {f : Addr} {fd : FuncData} (Fn : Fun K "chain_from" "chain_from" s_chain_from f fd) (T : Txt K mg) (h_neighbours : HasFn P w K mg base 2 "neighbours" 3 g_neighbours) (h_without : HasFn P w K mg base 1 "without" 2 g_without) :
    FnOk P w K mg base CX0 3 f fd ["house", "mirrors", "first"] (spF K 3 g_chain_from) :=
  fn_den (k := 2) (m := 6) (F := F_chain_from) rfl rfl Fn sc_chain_from fun cdv A outer s H E hr => (dss_cons (ds_asgN 3 sc_chain_from.nd (dn_lst (da_cons (dv 2) da_nil))) (dss_cons (ds_asg 4 sc_chain_from.nd (d_callH h_without (hr.mono (by decide)) rfl (da_cons (dv 1) (da_cons (dv 2) da_nil)) (lenAS (lenAS lenA0)))) (dss_cons (ds_while 100000 PassesOwn.never (dt_gt (DE.dr (d_callB call_lenG fnR_len rfl T.len_b (by rfl) (dar_cons (DE.dr (dv 4)) dar_nil))) (DE.dr d_int)) (dss_cons (ds_asg 5 sc_chain_from.nd (d_callH h_neighbours (hr.mono (by decide)) rfl (da_cons (dv 0) (da_cons (d_ix (dvr 3) (DE.dr (d_neg (DE.dr d_int)))) (da_cons (dv 4) da_nil))) (lenAS (lenAS (lenAS lenA0))))) (dss_cons (ds_if (dt_ne hr (DE.dr (d_callB call_lenG fnR_len rfl T.len_b (by rfl) (dar_cons (DE.dr (dv 5)) dar_nil))) (DE.dr d_int)) (dss_one (ds_ret d_non)) dss_nil) (dss_cons (ds_append 3 (d_ix (DE.dr (dv 5)) (DE.dr d_int))) (dss_one (ds_asg 4 sc_chain_from.nd (d_callH h_without (hr.mono (by decide)) rfl (da_cons (dv 4) (da_cons (d_ix (DE.dr (dv 5)) (DE.dr d_int)) da_nil)) (lenAS (lenAS lenA0))))))))) (dss_frz 3 (dss_one (ds_ret (dv 3)))))))
noncomputable def F_chains : FS := (seqF (asgF 2 (mapLst (compF 1 [0, 1] (seqItems (vF 1)) (nameG 0) ttF (appF g_chain_from (consA (vF 1) (consA (vF 2) (consA (vF 0) nilA))))))) (retF (mapLst (compF 1 [] (seqItems (vF 2)) (nameG 0) (blF (bind2 (isD true) (vF 0) (cF .non))) (vF 0)))))
noncomputable def g_chains : List D → Option D := denF 3 F_chains
theorem sc_chains : FnScope ["house", "mirrors", "orders"] ["house", "mirrors"] (defScope s_chains) := ⟨rfl, rfl, rfl, by decide +kernel, rfl, by decide +kernel, by decide +kernel⟩
theorem ok_chains {P : Program} {w : World} {K : PySem.W.Frag} {mg : Str → Option Value} {base : Heap} {f : Addr} {fd : FuncData} (Fn : Fun K "chains" "chains" s_chains f fd) (T : Txt K mg) (h_chain_from : HasFn P w K mg base 3 "chain_from" 3 g_chain_from) :
    FnOk P w K mg base CX0 4 f fd ["house", "mirrors"] (spF K 2 g_chains) :=
  fn_den (k := 3) (m := 3) (F := F_chains) rfl rfl Fn sc_chains fun cdv A outer s H E hr => (dss_cons (ds_asgComp 2 sc_chains.nd (own := ["first"]) (frees := ["house", "mirrors"]) (caps := [0, 1]) rfl (.of (by kernel_rfl)) rfl kn_name (di_seq (dv 1)) (fun cl C s H fp => ⟨(dg_name 0 (show List.Nodup (["first", "house", "mirrors"] : List Str) from by decide +kernel)), dq_nil, (d_callH h_chain_from (hr.mono (by decide)) rfl (da_cons (dv 1) (da_cons (dv 2) (da_cons (dv 0) da_nil))) (lenAS (lenAS (lenAS lenA0))))⟩)) (dss_one (ds_ret (DN.de (dn_comp (own := ["order"]) (frees := []) (caps := []) rfl (.of (by kernel_rfl)) rfl kn_name (di_seq (dv 2)) (fun cl C s H fp => ⟨(dg_name 0 (show List.Nodup (["order"] : List Str) from by decide +kernel)), (dq_one (dt_isnot (DE.dr (dv 0)) (DE.dr d_non))), (dv 0)⟩))))))
noncomputable def F_turns_along : FS := (retF (mapLst (compF 2 [0] (itemsZ (vF 1) (sliceF (vF 1) (exP (cF (.int 1))) noP)) (tupG 2 (consG (nameG 0) (consG (nameG 1) nilG))) ttF (appF g_turn_of (consA (vF 2) (consA (vF 0) (consA (vF 1) nilA)))))))
noncomputable def g_turns_along : List D → Option D := denF 2 F_turns_along
theorem sc_turns_along : FnScope ["house", "order"] ["house", "order"] (defScope s_turns_along) := ⟨rfl, rfl, rfl, by decide +kernel, rfl, by decide +kernel, by decide +kernel⟩
theorem ok_turns_along {P : Program} {w : World} {K : PySem.W.Frag} {mg : Str → Option Value} {base : Heap} {f : Addr} {fd : FuncData} (Fn : Fun K "turns_along" "turns_along" s_turns_along f fd) (T : Txt K mg) (h_turn_of : HasFn P w K mg base 1 "turn_of" 3 g_turn_of) :
    FnOk P w K mg base CX0 2 f fd ["house", "order"] (spF K 2 g_turns_along) :=
  fn_den (k := 1) (m := 2) (F := F_turns_along) rfl rfl Fn sc_turns_along fun cdv A outer s H E hr => (dss_one (ds_ret (DN.de (dn_comp (own := ["i", "j"]) (frees := ["house"]) (caps := [0]) rfl (.of (by kernel_rfl)) rfl (kn_tup (kns_cons kn_name (kns_cons kn_name kns_nil))) (di_zip rfl T.zip_b (dv 1) (d_slice (DE.dr (dv 1)) (dp_ex (DE.dr d_int)) dp_no)) (fun cl C s H fp => ⟨(dg_tup rfl (dgs_cons (dg_name 0 (show List.Nodup (["i", "j", "house"] : List Str) from by decide +kernel)) (dgs_cons (dg_name 1 (show List.Nodup (["i", "j", "house"] : List Str) from by decide +kernel)) dgs_nil))), dq_nil, (d_callH h_turn_of (hr.mono (by decide)) rfl (da_cons (dv 2) (da_cons (dv 0) (da_cons (dv 1) da_nil))) (lenAS (lenAS (lenAS lenA0))))⟩)))))
noncomputable def F_kind_of_chain : FS := (seqF (asgF 1 (bind2 addX (appF lenD (consA (vF 0) nilA)) (cF (.int 1)))) (seqF (ifS (blF (bind2 eqF (vF 0) (mapLst (mulZ (mapLst (lstF (consA (cF (.int 3)) nilA))) (bind2 subD (vF 1) (cF (.int 1))))))) (retF (joinF (conJ "a" (fmtJ (vF 1) nilJ)))) nxF) (seqF (ifS (blF (bind2 eqF (vF 0) (bind2 addX (mapLst (mulZ (mapLst (lstF (consA (cF (.int 3)) nilA))) (bind2 subD (vF 1) (cF (.int 2))))) (mapLst (lstF (consA (cF (.int 4)) nilA)))))) (retF (joinF (conJ "b" (fmtJ (vF 1) nilJ)))) nxF) (retF (bind2 (getT [([3, 4, 3], (.str "f4")), ([3, 5], (.str "h3")), ([3, 3, 5], (.str "h4")), ([5], (.str "i5")), ([6], (.str "i6"))]) (appF tupleD (consA (vF 0) nilA)) (cF (.str "-")))))))
noncomputable def g_kind_of_chain : List D → Option D := denF 2 F_kind_of_chain
theorem sc_kind_of_chain : FnScope ["turns", "mirrors"] ["turns"] (defScope s_kind_of_chain) := ⟨rfl, rfl, rfl, by decide +kernel, rfl, by decide +kernel, by decide +kernel⟩
theorem ok_kind_of_chain {P : Program} {w : World} {K : PySem.W.Frag} {mg : Str → Option Value} {base : Heap} {f : Addr} {fd : FuncData} (Fn : Fun K "kind_of_chain" "kind_of_chain" s_kind_of_chain f fd) (T : Txt K mg)  :
    FnOk P w K mg base CX0 1 f fd ["turns"] (spF K 1 g_kind_of_chain) :=
  fn_den (k := 0) (m := 2) (F := F_kind_of_chain) rfl rfl Fn sc_kind_of_chain fun cdv A outer s H E hr => (dss_cons (ds_asg 1 sc_kind_of_chain.nd (d_addX (DE.dr (d_callB call_lenG fnR_len rfl T.len_b (by rfl) (dar_cons (DE.dr (dv 0)) dar_nil))) (DE.dr d_int))) (dss_cons (ds_if (dt_eq hr (DE.dr (dv 0)) (DE.dr (DN.de (dn_mulZ (DE.dr (DN.de (dn_lst (da_cons (d_gint rfl T.COMMON_TURN_c) da_nil)))) (DE.dr (d_sub (DE.dr (dv 1)) (DE.dr d_int))))))) (dss_one (ds_ret (d_join (dj_con (dj_fmt (DE.dr (dv 1)) dj_nil))))) dss_nil) (dss_cons (ds_if (dt_eq hr (DE.dr (dv 0)) (DE.dr (d_addX (DE.dr (DN.de (dn_mulZ (DE.dr (DN.de (dn_lst (da_cons (d_gint rfl T.COMMON_TURN_c) da_nil)))) (DE.dr (d_sub (DE.dr (dv 1)) (DE.dr d_int)))))) (DE.dr (DN.de (dn_lst (da_cons d_int da_nil))))))) (dss_one (ds_ret (d_join (dj_con (dj_fmt (DE.dr (dv 1)) dj_nil))))) dss_nil) (dss_one (ds_ret (d_gget hr rfl T.RARE_CHAINS_c (d_callTy call_tuple_of fnR_tuple rfl T.tuple_b (by rfl) (dar_cons (DE.dr (dv 0)) dar_nil)) (d_gstr rfl T.NO_KIND_c)))))))
noncomputable def F_kind_with_one_beside : FS := (seqF (asgF 2 (bind2 addX (appF lenD (consA (vF 0) nilA)) (cF (.int 1)))) (seqF (ifS (andT (blF (bind2 geD (vF 2) (cF (.int 4)))) (blF (bind2 eqF (bind2 ixD (vF 0) (cF (.int 1))) (vF 1)))) (retF (joinF (conJ "d" (fmtJ (vF 2) nilJ)))) nxF) (seqF (ifS (andT (blF (bind2 eqF (vF 2) (cF (.int 6)))) (blF (bind2 eqF (bind2 ixD (vF 0) (cF (.int 2))) (vF 1)))) (retF (cF (.str "e6"))) nxF) (retF (cF (.str "-"))))))
noncomputable def g_kind_with_one_beside : List D → Option D := denF 3 F_kind_with_one_beside
theorem sc_kind_with_one_beside : FnScope ["order", "mirror", "mirrors"] ["order", "mirror"] (defScope s_kind_with_one_beside) := ⟨rfl, rfl, rfl, by decide +kernel, rfl, by decide +kernel, by decide +kernel⟩
theorem ok_kind_with_one_beside {P : Program} {w : World} {K : PySem.W.Frag} {mg : Str → Option Value} {base : Heap} {f : Addr} {fd : FuncData} (Fn : Fun K "kind_with_one_beside" "kind_with_one_beside" s_kind_with_one_beside f fd) (T : Txt K mg)  :
    FnOk P w K mg base CX0 1 f fd ["order", "mirror"] (spF K 2 g_kind_with_one_beside) :=
  fn_den (k := 0) (m := 3) (F := F_kind_with_one_beside) rfl rfl Fn sc_kind_with_one_beside fun cdv A outer s H E hr => (dss_cons (ds_asg 2 sc_kind_with_one_beside.nd (d_addX (DE.dr (d_callB call_lenG fnR_len rfl T.len_b (by rfl) (dar_cons (DE.dr (dv 0)) dar_nil))) (DE.dr d_int))) (dss_cons (ds_if (DW.dt (dw_and (dt_ge (DE.dr (dv 2)) (DE.dr d_int)) (dw_and1 (dt_eq hr (DE.dr (d_ix (DE.dr (dv 0)) (DE.dr d_int))) (DE.dr (dv 1)))))) (dss_one (ds_ret (d_join (dj_con (dj_fmt (DE.dr (dv 2)) dj_nil))))) dss_nil) (dss_cons (ds_if (DW.dt (dw_and (dt_eq hr (DE.dr (dv 2)) (DE.dr d_int)) (dw_and1 (dt_eq hr (DE.dr (d_ix (DE.dr (dv 0)) (DE.dr d_int))) (DE.dr (dv 1)))))) (dss_one (ds_ret d_str)) dss_nil) (dss_one (ds_ret (d_gstr rfl T.NO_KIND_c))))))
noncomputable def F_kinds_by_chains : FS := (retF (mapLst (compF 1 [0] (seqItems (appF g_chains (consA (vF 0) (consA (vF 1) nilA)))) (nameG 0) ttF (appF g_kind_of_chain (consA (appF g_turns_along (consA (vF 1) (consA (vF 0) nilA))) nilA)))))
noncomputable def g_kinds_by_chains : List D → Option D := denF 2 F_kinds_by_chains
theorem sc_kinds_by_chains : FnScope ["house", "part"] ["house", "part"] (defScope s_kinds_by_chains) := ⟨rfl, rfl, rfl, by decide +kernel, rfl, by decide +kernel, by decide +kernel⟩
theorem ok_kinds_by_chains {P : Program} {w : World} {K : PySem.W.Frag} {mg : Str → Option Value} {base : Heap} {f : Addr} {fd : FuncData} (Fn : Fun K "kinds_by_chains" "kinds_by_chains" s_kinds_by_chains f fd) (T : Txt K mg) (h_chains : HasFn P w K mg base 4 "chains" 2 g_chains) (h_kind_of_chain : HasFn P w K mg base 1 "kind_of_chain" 1 g_kind_of_chain) (h_turns_along : HasFn P w K mg base 2 "turns_along" 2 g_turns_along) :
    FnOk P w K mg base CX0 5 f fd ["house", "part"] (spF K 2 g_kinds_by_chains) :=
  fn_den (k := 4) (m := 2) (F := F_kinds_by_chains) rfl rfl Fn sc_kinds_by_chains fun cdv A outer s H E hr => (dss_one (ds_ret (DN.de (dn_comp (own := ["order"]) (frees := ["house"]) (caps := [0]) rfl (.of (by kernel_rfl)) rfl kn_name (di_seq (d_callH h_chains (hr.mono (by decide)) rfl (da_cons (dv 0) (da_cons (dv 1) da_nil)) (lenAS (lenAS lenA0)))) (fun cl C s H fp => ⟨(dg_name 0 (show List.Nodup (["order", "house"] : List Str) from by decide +kernel)), dq_nil, (d_callH h_kind_of_chain (hr.mono (by decide)) rfl (da_cons (d_callH h_turns_along (hr.mono (by decide)) rfl (da_cons (dv 1) (da_cons (dv 0) da_nil)) (lenAS (lenAS lenA0))) da_nil) (lenAS lenA0))⟩)))))
noncomputable def F_all_by_three : FS := (retF (appF allD (consA (mapLst (compF 3 [1] (seqItems (bind2 ixD (vF 0) (cF (.int 1)))) (tupG 3 (consG (nameG 0) (consG (nameG 1) (consG (nameG 2) nilG)))) (blF (bind2 (inD false) (vF 0) (vF 3))) (bind2 eqF (vF 2) (cF (.int 3))))) nilA)))
noncomputable def g_all_by_three : List D → Option D := denF 2 F_all_by_three
theorem sc_all_by_three : FnScope ["house", "part"] ["house", "part"] (defScope s_all_by_three) := ⟨rfl, rfl, rfl, by decide +kernel, rfl, by decide +kernel, by decide +kernel⟩
theorem ok_all_by_three {P : Program} {w : World} {K : PySem.W.Frag} {mg : Str → Option Value} {base : Heap} {f : Addr} {fd : FuncData} (Fn : Fun K "all_by_three" "all_by_three" s_all_by_three f fd) (T : Txt K mg)  :
    FnOk P w K mg base CX0 1 f fd ["house", "part"] (spF K 2 g_all_by_three) :=
  fn_den (k := 0) (m := 2) (F := F_all_by_three) rfl rfl Fn sc_all_by_three fun cdv A outer s H E hr => (dss_one (ds_ret (d_callB (call_all rfl) fnR_all rfl T.all_b (by rfl) (dar_cons (DE.dr (DN.de (dn_comp (own := ["i", "j", "m"]) (frees := ["part"]) (caps := [1]) rfl (.of (by kernel_rfl)) rfl (kn_tup (kns_cons kn_name (kns_cons kn_name (kns_cons kn_name kns_nil)))) (di_seq (d_ix (DE.dr (dv 0)) (DE.dr d_int))) (fun cl C s H fp => ⟨(dg_tup rfl (dgs_cons (dg_name 0 (show List.Nodup (["i", "j", "m", "part"] : List Str) from by decide +kernel)) (dgs_cons (dg_name 1 (show List.Nodup (["i", "j", "m", "part"] : List Str) from by decide +kernel)) (dgs_cons (dg_name 2 (show List.Nodup (["i", "j", "m", "part"] : List Str) from by decide +kernel)) dgs_nil)))), (dq_one (dt_in hr (DE.dr (dv 0)) (DE.dr (dv 3)))), (d_eq hr (DE.dr (dv 2)) (DE.dr (d_gint rfl T.COMMON_TURN_c)))⟩)))) dar_nil))))
noncomputable def F_kinds_by_ends : FS := (seqF (asgN 2 (lstF nilA)) (seqF (ifS (notT (blF (appF g_all_by_three (consA (vF 0) (consA (vF 1) nilA))))) (frzF 2 (retF (vF 2))) nxF) (seqF (forF (seqItems (vF 1)) (nameG 3) (seqF (asgF 4 (appF g_neighbours (consA (vF 0) (consA (vF 3) (consA (vF 1) nilA))))) (ifS (blF (bind2 eqF (appF lenD (consA (vF 4) nilA)) (cF (.int 1)))) (seqF (asgF 5 (appF g_chains (consA (vF 0) (consA (appF g_without (consA (vF 1) (consA (vF 3) nilA))) nilA)))) (extendF 2 (mapLst (compF 1 [4] (seqItems (vF 5)) (nameG 0) ttF (appF g_kind_with_one_beside (consA (vF 0) (consA (bind2 ixD (vF 1) (cF (.int 0))) nilA))))))) nxF))) (frzF 2 (retF (vF 2))))))
noncomputable def g_kinds_by_ends : List D → Option D := denF 6 F_kinds_by_ends
theorem sc_kinds_by_ends : FnScope ["house", "part", "told", "end", "near", "orders"] ["house", "part"] (defScope s_kinds_by_ends) := ⟨rfl, rfl, rfl, by decide +kernel, rfl, by decide +kernel, by decide +kernel⟩
theorem ok_kinds_by_ends {P : Program} {w : World} {K : PySem.W.Frag} {mg : Str → Option Value} {base : Heap} {f : Addr} {fd : FuncData} (Fn : Fun K "kinds_by_ends" "kinds_by_ends" s_kinds_by_ends f fd) (T : Txt K mg) (h_all_by_three : HasFn P w K mg base 1 "all_by_three" 2 g_all_by_three) (h_chains : HasFn P w K mg base 4 "chains" 2 g_chains) (h_kind_with_one_beside : HasFn P w K mg base 1 "kind_with_one_beside" 2 g_kind_with_one_beside) (h_neighbours : HasFn P w K mg base 2 "neighbours" 3 g_neighbours) (h_without : HasFn P w K mg base 1 "without" 2 g_without) :
    FnOk P w K mg base CX0 5 f fd ["house", "part"] (spF K 2 g_kinds_by_ends) :=
  fn_den (k := 4) (m := 6) (F := F_kinds_by_ends) rfl rfl Fn sc_kinds_by_ends fun cdv A outer s H E hr => (dss_cons (ds_asgN 2 sc_kinds_by_ends.nd (dn_lst da_nil)) (dss_cons (ds_if (dt_not (dt_val (DE.dr (d_callH h_all_by_three (hr.mono (by decide)) rfl (da_cons (dv 0) (da_cons (dv 1) da_nil)) (lenAS (lenAS lenA0)))))) (dss_frz 2 (dss_one (ds_ret (dv 2)))) dss_nil) (dss_cons (ds_for PassesOwn.never rfl (di_seq (dv 1)) (dg_name 3 sc_kinds_by_ends.nd) (dss_cons (ds_asg 4 sc_kinds_by_ends.nd (d_callH h_neighbours (hr.mono (by decide)) rfl (da_cons (dv 0) (da_cons (dv 3) (da_cons (dv 1) da_nil))) (lenAS (lenAS (lenAS lenA0))))) (dss_one (ds_if (dt_eq hr (DE.dr (d_callB call_lenG fnR_len rfl T.len_b (by rfl) (dar_cons (DE.dr (dv 4)) dar_nil))) (DE.dr d_int)) (dss_cons (ds_asg 5 sc_kinds_by_ends.nd (d_callH h_chains (hr.mono (by decide)) rfl (da_cons (dv 0) (da_cons (d_callH h_without (hr.mono (by decide)) rfl (da_cons (dv 1) (da_cons (dv 3) da_nil)) (lenAS (lenAS lenA0))) da_nil)) (lenAS (lenAS lenA0)))) (dss_one (ds_extend 2 (DN.de (dn_comp (own := ["order"]) (frees := ["near"]) (caps := [4]) rfl (.of (by kernel_rfl)) rfl kn_name (di_seq (dv 5)) (fun cl C s H fp => ⟨(dg_name 0 (show List.Nodup (["order", "near"] : List Str) from by decide +kernel)), dq_nil, (d_callH h_kind_with_one_beside (hr.mono (by decide)) rfl (da_cons (dv 0) (da_cons (d_ix (DE.dr (dv 1)) (DE.dr d_int)) da_nil)) (lenAS (lenAS lenA0)))⟩)))))) dss_nil)))) (dss_frz 2 (dss_one (ds_ret (dv 2)))))))
noncomputable def F_kind_of : FS := (seqF (forF (seqItems (bind2 addX (appF g_kinds_by_chains (consA (vF 0) (consA (vF 1) nilA))) (appF g_kinds_by_ends (consA (vF 0) (consA (vF 1) nilA))))) (nameG 2) (ifS (blF (bind2 neF (vF 2) (cF (.str "-")))) (retF (vF 2)) nxF)) (retF (cF (.str "-"))))
noncomputable def g_kind_of : List D → Option D := denF 3 F_kind_of
theorem sc_kind_of : FnScope ["house", "part", "kind"] ["house", "part"] (defScope s_kind_of) := ⟨rfl, rfl, rfl, by decide +kernel, rfl, by decide +kernel, by decide +kernel⟩
theorem ok_kind_of {P : Program} {w : World} {K : PySem.W.Frag} {mg : Str → Option Value} {base : Heap} {f : Addr} {fd : FuncData} (Fn : Fun K "kind_of" "kind_of" s_kind_of f fd) (T : Txt K mg) (h_kinds_by_chains : HasFn P w K mg base 5 "kinds_by_chains" 2 g_kinds_by_chains) (h_kinds_by_ends : HasFn P w K mg base 5 "kinds_by_ends" 2 g_kinds_by_ends) :
    FnOk P w K mg base CX0 6 f fd ["house", "part"] (spF K 2 g_kind_of) :=
  fn_den (k := 5) (m := 3) (F := F_kind_of) rfl rfl Fn sc_kind_of fun cdv A outer s H E hr => (dss_cons (ds_for PassesOwn.never rfl (di_seq (d_addX (DE.dr (d_callH h_kinds_by_chains (hr.mono (by decide)) rfl (da_cons (dv 0) (da_cons (dv 1) da_nil)) (lenAS (lenAS lenA0)))) (DE.dr (d_callH h_kinds_by_ends (hr.mono (by decide)) rfl (da_cons (dv 0) (da_cons (dv 1) da_nil)) (lenAS (lenAS lenA0)))))) (dg_name 2 sc_kind_of.nd) (dss_one (ds_if (dt_ne hr (DE.dr (dv 2)) (DE.dr (d_gstr rfl T.NO_KIND_c))) (dss_one (ds_ret (dv 2))) dss_nil))) (dss_one (ds_ret (d_gstr rfl T.NO_KIND_c))))
noncomputable def F_kinds : FS := (retF (mapLst (compF 1 [0] (seqItems (appF g_parts (consA (vF 0) nilA))) (nameG 0) ttF (tupF (consA (vF 0) (consA (appF g_kind_of (consA (vF 1) (consA (vF 0) nilA))) nilA))))))
noncomputable def g_kinds : List D → Option D := denF 1 F_kinds
theorem sc_kinds : FnScope ["house"] ["house"] (defScope s_kinds) := ⟨rfl, rfl, rfl, by decide +kernel, rfl, by decide +kernel, by decide +kernel⟩
theorem ok_kinds {P : Program} {w : World} {K : PySem.W.Frag} {mg : Str → Option Value} {base : Heap} {f : Addr} {fd : FuncData} (Fn : Fun K "kinds" "kinds" s_kinds f fd) (T : Txt K mg) (h_kind_of : HasFn P w K mg base 6 "kind_of" 2 g_kind_of) (h_parts : HasFn P w K mg base 4 "parts" 1 g_parts) :
    FnOk P w K mg base CX0 7 f fd ["house"] (spF K 1 g_kinds) :=
  fn_den (k := 6) (m := 1) (F := F_kinds) rfl rfl Fn sc_kinds fun cdv A outer s H E hr => (dss_one (ds_ret (DN.de (dn_comp (own := ["part"]) (frees := ["house"]) (caps := [0]) rfl (.of (by kernel_rfl)) rfl kn_name (di_seq (d_callH h_parts (hr.mono (by decide)) rfl (da_cons (dv 0) da_nil) (lenAS lenA0))) (fun cl C s H fp => ⟨(dg_name 0 (show List.Nodup (["part", "house"] : List Str) from by decide +kernel)), dq_nil, (d_tup (da_cons (dv 0) (da_cons (d_callH h_kind_of (hr.mono (by decide)) rfl (da_cons (dv 1) (da_cons (dv 0) da_nil)) (lenAS (lenAS lenA0))) da_nil)))⟩)))))
noncomputable def F_l_at : FS := (seqF (ifS (blF (bind2 ltD (vF 1) (appF lenD (consA (vF 0) nilA)))) (retF (bind2 ixD (vF 0) (vF 1))) nxF) (retF (bind2 addX (bind2 mulD (cF (.int 17)) (vF 1)) (cF (.int 9)))))
noncomputable def g_l_at : List D → Option D := denF 2 F_l_at
theorem sc_l_at : FnScope ["_law_script", "_law_k"] ["_law_script", "_law_k"] (defScope s_l_at) := ⟨rfl, rfl, rfl, by decide +kernel, rfl, by decide +kernel, by decide +kernel⟩
theorem ok_l_at {P : Program} {w : World} {K : PySem.W.Frag} {mg : Str → Option Value} {base : Heap} {f : Addr} {fd : FuncData} (Fn : Fun K "_law_at" "_law_at" s_l_at f fd) (T : Txt K mg)  :
    FnOk P w K mg base CX0 1 f fd ["_law_script", "_law_k"] (spF K 2 g_l_at) :=
  fn_den (k := 0) (m := 2) (F := F_l_at) rfl rfl Fn sc_l_at fun cdv A outer s H E hr => (dss_cons (ds_if (dt_lt (DE.dr (dv 1)) (DE.dr (d_callB call_lenG fnR_len rfl T.len_b (by rfl) (dar_cons (DE.dr (dv 0)) dar_nil)))) (dss_one (ds_ret (d_ix (DE.dr (dv 0)) (DE.dr (dv 1))))) dss_nil) (dss_one (ds_ret (d_addX (DE.dr (d_mul (DE.dr d_int) (DE.dr (dv 1)))) (DE.dr d_int)))))
noncomputable def F_l_mix : FS := (seqF (ifS (blF (bind2 geD (vF 0) (bind2 powD (cF (.int 10)) (cF (.int 12))))) (seqF (asgF 0 (bind2 subD (bind2 fdivD (vF 0) (bind2 powD (cF (.int 10)) (cF (.int 12)))) (cF (.int 1)))) (seqF (forF (rng1 (consA (bind2 modD (vF 1) (cF (.int 61))) nilA)) (nameG 2) (asgF 0 (bind2 fdivD (vF 0) (cF (.int 2147483648))))) (retF (bind2 modD (vF 0) (cF (.int 2147483648)))))) nxF) (seqF (asgF 3 (bind2 modD (bind2 mulD (bind2 addX (bind2 addX (bind2 modD (vF 0) (cF (.int 2147483629))) (vF 1)) (cF (.int 1))) (bind2 addX (bind2 mulD (bind2 mulD (cF (.int 8)) (vF 1)) (vF 1)) (cF (.int 48271)))) (cF (.int 2147483647)))) (seqF (asgF 3 (bind2 modD (bind2 mulD (vF 3) (vF 3)) (cF (.int 2147483587)))) (retF (bind2 modD (bind2 mulD (vF 3) (bind2 addX (vF 3) (cF (.int 2)))) (cF (.int 2147483579)))))))
noncomputable def g_l_mix : List D → Option D := denF 4 F_l_mix
theorem sc_l_mix : FnScope ["_law_number", "_law_place", "_law_turn", "_law_part"] ["_law_number", "_law_place"] (defScope s_l_mix) := ⟨rfl, rfl, rfl, by decide +kernel, rfl, by decide +kernel, by decide +kernel⟩
theorem ok_l_mix {P : Program} {w : World} {K : PySem.W.Frag} {mg : Str → Option Value} {base : Heap} {f : Addr} {fd : FuncData} (Fn : Fun K "_law_mix" "_law_mix" s_l_mix f fd) (T : Txt K mg)  :
    FnOk P w K mg base CX0 1 f fd ["_law_number", "_law_place"] (spF K 2 g_l_mix) :=
  fn_den (k := 0) (m := 4) (F := F_l_mix) rfl rfl Fn sc_l_mix fun cdv A outer s H E hr => (dss_cons (ds_if (dt_ge (DE.dr (dv 0)) (DE.dr (d_pow (DE.dr d_int) (DE.dr d_int)))) (dss_cons (ds_asg 0 sc_l_mix.nd (d_sub (DE.dr (d_fdiv (DE.dr (dv 0)) (DE.dr (d_pow (DE.dr d_int) (DE.dr d_int))))) (DE.dr d_int))) (dss_cons (ds_for PassesOwn.never rfl (di_range1 rfl T.range_b (dar_cons (DE.dr (d_mod (DE.dr (dv 1)) (DE.dr d_int))) dar_nil)) (dg_name 2 sc_l_mix.nd) (dss_one (ds_asg 0 sc_l_mix.nd (d_fdiv (DE.dr (dv 0)) (DE.dr d_int))))) (dss_one (ds_ret (d_mod (DE.dr (dv 0)) (DE.dr d_int)))))) dss_nil) (dss_cons (ds_asg 3 sc_l_mix.nd (d_mod (DE.dr (d_mul (DE.dr (d_addX (DE.dr (d_addX (DE.dr (d_mod (DE.dr (dv 0)) (DE.dr d_int))) (DE.dr (dv 1)))) (DE.dr d_int))) (DE.dr (d_addX (DE.dr (d_mul (DE.dr (d_mul (DE.dr d_int) (DE.dr (dv 1)))) (DE.dr (dv 1)))) (DE.dr d_int))))) (DE.dr d_int))) (dss_cons (ds_asg 3 sc_l_mix.nd (d_mod (DE.dr (d_mul (DE.dr (dv 3)) (DE.dr (dv 3)))) (DE.dr d_int))) (dss_one (ds_ret (d_mod (DE.dr (d_mul (DE.dr (dv 3)) (DE.dr (d_addX (DE.dr (dv 3)) (DE.dr d_int))))) (DE.dr d_int)))))))
noncomputable def F_l_whole : FS := (retF (andV (bind1 (isTy "int") (vF 0)) (notV (bind1 (isTy "bool") (vF 0)))))
noncomputable def g_l_whole : List D → Option D := denF 1 F_l_whole
theorem sc_l_whole : FnScope ["_law_found"] ["_law_found"] (defScope s_l_whole) := ⟨rfl, rfl, rfl, by decide +kernel, rfl, by decide +kernel, by decide +kernel⟩
theorem ok_l_whole {P : Program} {w : World} {K : PySem.W.Frag} {mg : Str → Option Value} {base : Heap} {f : Addr} {fd : FuncData} (Fn : Fun K "_law_whole" "_law_whole" s_l_whole f fd) (T : Txt K mg)  :
    FnOk P w K mg base CX0 1 f fd ["_law_found"] (spF K 1 g_l_whole) :=
  fn_den (k := 0) (m := 1) (F := F_l_whole) rfl rfl Fn sc_l_whole fun cdv A outer s H E hr => (dss_one (ds_ret (d_and (d_isTy ty_int (DE.dr (dv 0)) rfl T.isinstance_b rfl T.int_b) (d_one (d_not (d_isTy ty_bool (DE.dr (dv 0)) rfl T.isinstance_b rfl T.bool_b))))))
noncomputable def F_l_chain : FS := (retF (mapLst (compF 1 [0] (rng1 (consA (appF lenD (consA (vF 0) nilA)) nilA)) (nameG 0) ttF (tupF (consA (vF 0) (consA (bind2 addX (vF 0) (cF (.int 1))) (consA (bind2 ixD (vF 1) (vF 0)) nilA)))))))
noncomputable def g_l_chain : List D → Option D := denF 1 F_l_chain
theorem sc_l_chain : FnScope ["_law_turns"] ["_law_turns"] (defScope s_l_chain) := ⟨rfl, rfl, rfl, by decide +kernel, rfl, by decide +kernel, by decide +kernel⟩
theorem ok_l_chain {P : Program} {w : World} {K : PySem.W.Frag} {mg : Str → Option Value} {base : Heap} {f : Addr} {fd : FuncData} (Fn : Fun K "_law_chain" "_law_chain" s_l_chain f fd) (T : Txt K mg)  :
    FnOk P w K mg base CX0 1 f fd ["_law_turns"] (spF K 1 g_l_chain) :=
  fn_den (k := 0) (m := 1) (F := F_l_chain) rfl rfl Fn sc_l_chain fun cdv A outer s H E hr => (dss_one (ds_ret (DN.de (dn_comp (own := ["_law_k"]) (frees := ["_law_turns"]) (caps := [0]) rfl (.of (by kernel_rfl)) rfl kn_name (di_range1 rfl T.range_b (dar_cons (DE.dr (d_callB call_lenG fnR_len rfl T.len_b (by rfl) (dar_cons (DE.dr (dv 0)) dar_nil))) dar_nil)) (fun cl C s H fp => ⟨(dg_name 0 (show List.Nodup (["_law_k", "_law_turns"] : List Str) from by decide +kernel)), dq_nil, (d_tup (da_cons (dv 0) (da_cons (d_addX (DE.dr (dv 0)) (DE.dr d_int)) (da_cons (d_ix (DE.dr (dv 1)) (DE.dr (dv 0))) da_nil))))⟩)))))
noncomputable def F_l_finite : FS := (seqF (asgN 2 (lstF (consA (tupF (consA (cF (.str "a")) (consA (appF g_l_chain (consA (mapLst (mulZ (mapLst (lstF (consA (cF (.int 3)) nilA))) (bind2 subD (vF 0) (cF (.int 1))))) nilA)) nilA))) nilA))) (seqF (ifS (blF (bind2 gtD (vF 0) (cF (.int 1)))) (appendF 2 (tupF (consA (cF (.str "b")) (consA (appF g_l_chain (consA (bind2 addX (mapLst (mulZ (mapLst (lstF (consA (cF (.int 3)) nilA))) (bind2 subD (vF 0) (cF (.int 2))))) (mapLst (lstF (consA (cF (.int 4)) nilA)))) nilA)) nilA)))) nxF) (seqF (ifS (blF (bind2 gtD (vF 0) (cF (.int 3)))) (appendF 2 (tupF (consA (cF (.str "d")) (consA (bind2 addX (appF g_l_chain (consA (mapLst (mulZ (mapLst (lstF (consA (cF (.int 3)) nilA))) (bind2 subD (vF 0) (cF (.int 2))))) nilA)) (mapLst (lstF (consA (tupF (consA (bind2 subD (vF 0) (cF (.int 3))) (consA (bind2 subD (vF 0) (cF (.int 1))) (consA (cF (.int 3)) nilA)))) nilA)))) nilA)))) nxF) (seqF (asgG (tupG 2 (consG (nameG 3) (consG (nameG 4) nilG))) (bind2 ixD (vR 2) (bind2 modD (vF 1) (appF lenD (consA (vR 2) nilA))))) (seqF (asgF 3 (bind2 addX (vF 3) (appF strD (consA (vF 0) nilA)))) (seqF (asgN 5 (lstF (consA (mapLst (lstF nilA)) (consA (mapLst (lstF nilA)) (consA (mapLst (lstF nilA)) (consA (mapLst (lstF (consA (tupF (consA (cF (.str "h3")) (consA (appF g_l_chain (consA (mapLst (lstF (consA (cF (.int 3)) (consA (cF (.int 5)) nilA)))) nilA)) nilA))) nilA))) (consA (mapLst (lstF (consA (tupF (consA (cF (.str "h4")) (consA (appF g_l_chain (consA (mapLst (lstF (consA (cF (.int 3)) (consA (cF (.int 3)) (consA (cF (.int 5)) nilA))))) nilA)) nilA))) (consA (tupF (consA (cF (.str "f4")) (consA (appF g_l_chain (consA (mapLst (lstF (consA (cF (.int 3)) (consA (cF (.int 4)) (consA (cF (.int 3)) nilA))))) nilA)) nilA))) nilA)))) nilA))))))) (seqF (asgN 5 (addN (vR 5) (mapLst (lstF (consA (mapLst (lstF nilA)) (consA (mapLst (lstF (consA (tupF (consA (cF (.str "e6")) (consA (bind2 addX (appF g_l_chain (consA (mapLst (lstF (consA (cF (.int 3)) (consA (cF (.int 3)) (consA (cF (.int 3)) (consA (cF (.int 3)) nilA)))))) nilA)) (mapLst (lstF (consA (tupF (consA (cF (.int 2)) (consA (cF (.int 5)) (consA (cF (.int 3)) nilA)))) nilA)))) nilA))) nilA))) nilA)))))) (seqF (setIF 5 (cF (.int 2)) (mapLst (lstF (consA (tupF (consA (cF (.str "i5")) (consA (appF g_l_chain (consA (mapLst (lstF (consA (cF (.int 5)) nilA))) nilA)) nilA))) (consA (tupF (consA (cF (.str "i6")) (consA (appF g_l_chain (consA (mapLst (lstF (consA (cF (.int 6)) nilA))) nilA)) nilA))) nilA))))) (seqF (ifS (andT (blF (bind2 eqF (bind2 modD (bind2 fdivD (vF 1) (cF (.int 8))) (cF (.int 2))) (cF (.int 0)))) (blF (bind2 gtD (appF lenD (consA (bind2 ixD (vR 5) (vF 0)) nilA)) (cF (.int 0))))) (retF (bind2 ixD (bind2 ixD (vR 5) (vF 0)) (bind2 modD (bind2 fdivD (vF 1) (cF (.int 16))) (appF lenD (consA (bind2 ixD (vR 5) (vF 0)) nilA))))) nxF) (retF (tupF (consA (vF 3) (consA (vF 4) nilA)))))))))))))
noncomputable def g_l_finite : List D → Option D := denF 6 F_l_finite
theorem sc_l_finite : FnScope ["_law_many", "_law_number", "_law_some", "_law_kind", "_law_turns", "_law_rare"] ["_law_many", "_law_number"] (defScope s_l_finite) := ⟨rfl, rfl, rfl, by decide +kernel, rfl, by decide +kernel, by decide +kernel⟩
@[irreducible] def bf (k : Nat) : Stmt := (defBody s_l_finite).getD k (.Pass ⟨0, 0, 0, 0⟩)
theorem bf_eq (k : Nat) : bf k = (defBody s_l_finite).getD k (.Pass ⟨0, 0, 0, 0⟩) := by unfold bf; rfl
theorem body_l_finite : defBody s_l_finite = [bf 0, bf 1, bf 2, bf 3, bf 4, bf 5, bf 6, bf 7, bf 8, bf 9] := by kernel_rfl
theorem st_l_finite_0 {P : Program} {w : World} {K : PySem.W.Frag} {mg : Str → Option Value} {base : Heap} {f : Addr} (T : Txt K mg) (h_l_chain : HasFn P w K mg base 1 "_law_chain" 1 g_l_chain) (cdv : Value) (A : Around) (outer : List Env) (s : Shared) (H : Hp) (E : XK) (hr : Room 1 (A.deeper (envOfC "_law_finite" (defScope s_l_finite) s.heap.objs.size f cdv))) :
    DS (cxOf CX0 P w K mg base ["_law_many", "_law_number", "_law_some", "_law_kind", "_law_turns", "_law_rare"] "_law_finite" (defScope s_l_finite) f cdv A outer s H E).nox (bf 0) (asgN 2 (lstF (consA (tupF (consA (cF (.str "a")) (consA (appF g_l_chain (consA (mapLst (mulZ (mapLst (lstF (consA (cF (.int 3)) nilA))) (bind2 subD (vF 0) (cF (.int 1))))) nilA)) nilA))) nilA))) := by
  rw [bf_eq 0]
  exact (ds_asgN 2 sc_l_finite.nd (dn_lst (da_cons (d_tup (da_cons d_str (da_cons (d_callH h_l_chain (hr.mono (by decide)) rfl (da_cons (DN.de (dn_mulZ (DE.dr (DN.de (dn_lst (da_cons d_int da_nil)))) (DE.dr (d_sub (DE.dr (dv 0)) (DE.dr d_int))))) da_nil) (lenAS lenA0)) da_nil))) da_nil)))
theorem st_l_finite_1 {P : Program} {w : World} {K : PySem.W.Frag} {mg : Str → Option Value} {base : Heap} {f : Addr} (T : Txt K mg) (h_l_chain : HasFn P w K mg base 1 "_law_chain" 1 g_l_chain) (cdv : Value) (A : Around) (outer : List Env) (s : Shared) (H : Hp) (E : XK) (hr : Room 1 (A.deeper (envOfC "_law_finite" (defScope s_l_finite) s.heap.objs.size f cdv))) :
    DS (cxOf CX0 P w K mg base ["_law_many", "_law_number", "_law_some", "_law_kind", "_law_turns", "_law_rare"] "_law_finite" (defScope s_l_finite) f cdv A outer s H E).nox (bf 1) (ifS (blF (bind2 gtD (vF 0) (cF (.int 1)))) (appendF 2 (tupF (consA (cF (.str "b")) (consA (appF g_l_chain (consA (bind2 addX (mapLst (mulZ (mapLst (lstF (consA (cF (.int 3)) nilA))) (bind2 subD (vF 0) (cF (.int 2))))) (mapLst (lstF (consA (cF (.int 4)) nilA)))) nilA)) nilA)))) nxF) := by
  rw [bf_eq 1]
  exact (ds_if (dt_gt (DE.dr (dv 0)) (DE.dr d_int)) (dss_one (ds_append 2 (d_tup (da_cons d_str (da_cons (d_callH h_l_chain (hr.mono (by decide)) rfl (da_cons (d_addX (DE.dr (DN.de (dn_mulZ (DE.dr (DN.de (dn_lst (da_cons d_int da_nil)))) (DE.dr (d_sub (DE.dr (dv 0)) (DE.dr d_int)))))) (DE.dr (DN.de (dn_lst (da_cons d_int da_nil))))) da_nil) (lenAS lenA0)) da_nil))))) dss_nil)
theorem st_l_finite_2 {P : Program} {w : World} {K : PySem.W.Frag} {mg : Str → Option Value} {base : Heap} {f : Addr} (T : Txt K mg) (h_l_chain : HasFn P w K mg base 1 "_law_chain" 1 g_l_chain) (cdv : Value) (A : Around) (outer : List Env) (s : Shared) (H : Hp) (E : XK) (hr : Room 1 (A.deeper (envOfC "_law_finite" (defScope s_l_finite) s.heap.objs.size f cdv))) :
    DS (cxOf CX0 P w K mg base ["_law_many", "_law_number", "_law_some", "_law_kind", "_law_turns", "_law_rare"] "_law_finite" (defScope s_l_finite) f cdv A outer s H E).nox (bf 2) (ifS (blF (bind2 gtD (vF 0) (cF (.int 3)))) (appendF 2 (tupF (consA (cF (.str "d")) (consA (bind2 addX (appF g_l_chain (consA (mapLst (mulZ (mapLst (lstF (consA (cF (.int 3)) nilA))) (bind2 subD (vF 0) (cF (.int 2))))) nilA)) (mapLst (lstF (consA (tupF (consA (bind2 subD (vF 0) (cF (.int 3))) (consA (bind2 subD (vF 0) (cF (.int 1))) (consA (cF (.int 3)) nilA)))) nilA)))) nilA)))) nxF) := by
  rw [bf_eq 2]
  exact (ds_if (dt_gt (DE.dr (dv 0)) (DE.dr d_int)) (dss_one (ds_append 2 (d_tup (da_cons d_str (da_cons (d_addX (DE.dr (d_callH h_l_chain (hr.mono (by decide)) rfl (da_cons (DN.de (dn_mulZ (DE.dr (DN.de (dn_lst (da_cons d_int da_nil)))) (DE.dr (d_sub (DE.dr (dv 0)) (DE.dr d_int))))) da_nil) (lenAS lenA0))) (DE.dr (DN.de (dn_lst (da_cons (d_tup (da_cons (d_sub (DE.dr (dv 0)) (DE.dr d_int)) (da_cons (d_sub (DE.dr (dv 0)) (DE.dr d_int)) (da_cons d_int da_nil)))) da_nil))))) da_nil))))) dss_nil)
theorem st_l_finite_3 {P : Program} {w : World} {K : PySem.W.Frag} {mg : Str → Option Value} {base : Heap} {f : Addr} (T : Txt K mg) (h_l_chain : HasFn P w K mg base 1 "_law_chain" 1 g_l_chain) (cdv : Value) (A : Around) (outer : List Env) (s : Shared) (H : Hp) (E : XK) (hr : Room 1 (A.deeper (envOfC "_law_finite" (defScope s_l_finite) s.heap.objs.size f cdv))) :
    DS (cxOf CX0 P w K mg base ["_law_many", "_law_number", "_law_some", "_law_kind", "_law_turns", "_law_rare"] "_law_finite" (defScope s_l_finite) f cdv A outer s H E).nox (bf 3) (asgG (tupG 2 (consG (nameG 3) (consG (nameG 4) nilG))) (bind2 ixD (vR 2) (bind2 modD (vF 1) (appF lenD (consA (vR 2) nilA))))) := by
  rw [bf_eq 3]
  exact (ds_asgG (dg_tup rfl (dgs_cons (dg_name 3 sc_l_finite.nd) (dgs_cons (dg_name 4 sc_l_finite.nd) dgs_nil))) (d_ix (dvr 2) (DE.dr (d_mod (DE.dr (dv 1)) (DE.dr (d_callB call_lenG fnR_len rfl T.len_b (by rfl) (dar_cons (dvr 2) dar_nil)))))))
theorem st_l_finite_4 {P : Program} {w : World} {K : PySem.W.Frag} {mg : Str → Option Value} {base : Heap} {f : Addr} (T : Txt K mg) (h_l_chain : HasFn P w K mg base 1 "_law_chain" 1 g_l_chain) (cdv : Value) (A : Around) (outer : List Env) (s : Shared) (H : Hp) (E : XK) (hr : Room 1 (A.deeper (envOfC "_law_finite" (defScope s_l_finite) s.heap.objs.size f cdv))) :
    DS (cxOf CX0 P w K mg base ["_law_many", "_law_number", "_law_some", "_law_kind", "_law_turns", "_law_rare"] "_law_finite" (defScope s_l_finite) f cdv A outer s H E).nox (bf 4) (asgF 3 (bind2 addX (vF 3) (appF strD (consA (vF 0) nilA)))) := by
  rw [bf_eq 4]
  exact (ds_asg 3 sc_l_finite.nd (d_addX (DE.dr (dv 3)) (DE.dr (d_callTy call_str_int fnR_str rfl T.str_b (by rfl) (dar_cons (DE.dr (dv 0)) dar_nil)))))
theorem st_l_finite_5 {P : Program} {w : World} {K : PySem.W.Frag} {mg : Str → Option Value} {base : Heap} {f : Addr} (T : Txt K mg) (h_l_chain : HasFn P w K mg base 1 "_law_chain" 1 g_l_chain) (cdv : Value) (A : Around) (outer : List Env) (s : Shared) (H : Hp) (E : XK) (hr : Room 1 (A.deeper (envOfC "_law_finite" (defScope s_l_finite) s.heap.objs.size f cdv))) :
    DS (cxOf CX0 P w K mg base ["_law_many", "_law_number", "_law_some", "_law_kind", "_law_turns", "_law_rare"] "_law_finite" (defScope s_l_finite) f cdv A outer s H E).nox (bf 5) (asgN 5 (lstF (consA (mapLst (lstF nilA)) (consA (mapLst (lstF nilA)) (consA (mapLst (lstF nilA)) (consA (mapLst (lstF (consA (tupF (consA (cF (.str "h3")) (consA (appF g_l_chain (consA (mapLst (lstF (consA (cF (.int 3)) (consA (cF (.int 5)) nilA)))) nilA)) nilA))) nilA))) (consA (mapLst (lstF (consA (tupF (consA (cF (.str "h4")) (consA (appF g_l_chain (consA (mapLst (lstF (consA (cF (.int 3)) (consA (cF (.int 3)) (consA (cF (.int 5)) nilA))))) nilA)) nilA))) (consA (tupF (consA (cF (.str "f4")) (consA (appF g_l_chain (consA (mapLst (lstF (consA (cF (.int 3)) (consA (cF (.int 4)) (consA (cF (.int 3)) nilA))))) nilA)) nilA))) nilA)))) nilA))))))) := by
  rw [bf_eq 5]
  exact (by refine ds_asgN 5 ?hN ?he ?hi ?hx ?hs ?hf; (case hN => exact sc_l_finite.nd); (case hi => rfl); (case hx => first | exact Or.inl rfl | exact Or.inr rfl); (case hf => first | exact .inl rfl | exact .inr rfl); (case hs => rfl); (case he => exact (by refine dn_lst ?l0; (case l0 => refine da_cons ?e0 ?l1; (case e0 => exact (DN.de (dn_lst da_nil))); (case l1 => refine da_cons ?e1 ?l2; (case e1 => exact (DN.de (dn_lst da_nil))); (case l2 => refine da_cons ?e2 ?l3; (case e2 => exact (DN.de (dn_lst da_nil))); (case l3 => refine da_cons ?e3 ?l4; (case e3 => exact (DN.de (dn_lst (da_cons (d_tup (da_cons d_str (da_cons (d_callH h_l_chain (hr.mono (by decide)) rfl (da_cons (DN.de (dn_lst (da_cons d_int (da_cons d_int da_nil)))) da_nil) (lenAS lenA0)) da_nil))) da_nil)))); (case l4 => refine da_cons ?e4 ?l5; (case e4 => exact (DN.de (by refine dn_lst ?l0; (case l0 => refine da_cons ?e0 ?l1; (case e0 => exact (d_tup (da_cons d_str (da_cons (d_callH h_l_chain (hr.mono (by decide)) rfl (da_cons (DN.de (dn_lst (da_cons d_int (da_cons d_int (da_cons d_int da_nil))))) da_nil) (lenAS lenA0)) da_nil)))); (case l1 => refine da_cons ?e1 ?l2; (case e1 => exact (d_tup (da_cons d_str (da_cons (d_callH h_l_chain (hr.mono (by decide)) rfl (da_cons (DN.de (dn_lst (da_cons d_int (da_cons d_int (da_cons d_int da_nil))))) da_nil) (lenAS lenA0)) da_nil)))); (case l2 => exact da_nil)))))); (case l5 => exact da_nil)))))))))
theorem st_l_finite_6 {P : Program} {w : World} {K : PySem.W.Frag} {mg : Str → Option Value} {base : Heap} {f : Addr} (T : Txt K mg) (h_l_chain : HasFn P w K mg base 1 "_law_chain" 1 g_l_chain) (cdv : Value) (A : Around) (outer : List Env) (s : Shared) (H : Hp) (E : XK) (hr : Room 1 (A.deeper (envOfC "_law_finite" (defScope s_l_finite) s.heap.objs.size f cdv))) :
    DS (cxOf CX0 P w K mg base ["_law_many", "_law_number", "_law_some", "_law_kind", "_law_turns", "_law_rare"] "_law_finite" (defScope s_l_finite) f cdv A outer s H E).nox (bf 6) (asgN 5 (addN (vR 5) (mapLst (lstF (consA (mapLst (lstF nilA)) (consA (mapLst (lstF (consA (tupF (consA (cF (.str "e6")) (consA (bind2 addX (appF g_l_chain (consA (mapLst (lstF (consA (cF (.int 3)) (consA (cF (.int 3)) (consA (cF (.int 3)) (consA (cF (.int 3)) nilA)))))) nilA)) (mapLst (lstF (consA (tupF (consA (cF (.int 2)) (consA (cF (.int 5)) (consA (cF (.int 3)) nilA)))) nilA)))) nilA))) nilA))) nilA)))))) := by
  rw [bf_eq 6]
  exact (by refine ds_asgN 5 ?hN ?he ?hi ?hx ?hs ?hf; (case hN => exact sc_l_finite.nd); (case hi => rfl); (case hx => first | exact Or.inl rfl | exact Or.inr rfl); (case hf => first | exact .inl rfl | exact .inr rfl); (case hs => rfl); (case he => refine dn_addL ?a ?b; (case a => exact (dvr 5)); (case b => refine DE.dr ?c; (case c => refine DN.de ?d; (case d => exact (by refine dn_lst ?l0; (case l0 => refine da_cons ?e0 ?l1; (case e0 => exact (DN.de (dn_lst da_nil))); (case l1 => refine da_cons ?e1 ?l2; (case e1 => exact (DN.de (dn_lst (da_cons (d_tup (da_cons d_str (da_cons (d_addX (DE.dr (d_callH h_l_chain (hr.mono (by decide)) rfl (da_cons (DN.de (dn_lst (da_cons d_int (da_cons d_int (da_cons d_int (da_cons d_int da_nil)))))) da_nil) (lenAS lenA0))) (DE.dr (DN.de (dn_lst (da_cons (d_tup (da_cons d_int (da_cons d_int (da_cons d_int da_nil)))) da_nil))))) da_nil))) da_nil)))); (case l2 => exact da_nil)))))))))
theorem st_l_finite_7 {P : Program} {w : World} {K : PySem.W.Frag} {mg : Str → Option Value} {base : Heap} {f : Addr} (T : Txt K mg) (h_l_chain : HasFn P w K mg base 1 "_law_chain" 1 g_l_chain) (cdv : Value) (A : Around) (outer : List Env) (s : Shared) (H : Hp) (E : XK) (hr : Room 1 (A.deeper (envOfC "_law_finite" (defScope s_l_finite) s.heap.objs.size f cdv))) :
    DS (cxOf CX0 P w K mg base ["_law_many", "_law_number", "_law_some", "_law_kind", "_law_turns", "_law_rare"] "_law_finite" (defScope s_l_finite) f cdv A outer s H E).nox (bf 7) (setIF 5 (cF (.int 2)) (mapLst (lstF (consA (tupF (consA (cF (.str "i5")) (consA (appF g_l_chain (consA (mapLst (lstF (consA (cF (.int 5)) nilA))) nilA)) nilA))) (consA (tupF (consA (cF (.str "i6")) (consA (appF g_l_chain (consA (mapLst (lstF (consA (cF (.int 6)) nilA))) nilA)) nilA))) nilA))))) := by
  rw [bf_eq 7]
  exact (ds_setI 5 (DN.de (by refine dn_lst ?l0; (case l0 => refine da_cons ?e0 ?l1; (case e0 => exact (d_tup (da_cons d_str (da_cons (d_callH h_l_chain (hr.mono (by decide)) rfl (da_cons (DN.de (dn_lst (da_cons d_int da_nil))) da_nil) (lenAS lenA0)) da_nil)))); (case l1 => refine da_cons ?e1 ?l2; (case e1 => exact (d_tup (da_cons d_str (da_cons (d_callH h_l_chain (hr.mono (by decide)) rfl (da_cons (DN.de (dn_lst (da_cons d_int da_nil))) da_nil) (lenAS lenA0)) da_nil)))); (case l2 => exact da_nil))))) d_int)
theorem st_l_finite_8 {P : Program} {w : World} {K : PySem.W.Frag} {mg : Str → Option Value} {base : Heap} {f : Addr} (T : Txt K mg) (h_l_chain : HasFn P w K mg base 1 "_law_chain" 1 g_l_chain) (cdv : Value) (A : Around) (outer : List Env) (s : Shared) (H : Hp) (E : XK) (hr : Room 1 (A.deeper (envOfC "_law_finite" (defScope s_l_finite) s.heap.objs.size f cdv))) :
    DS (cxOf CX0 P w K mg base ["_law_many", "_law_number", "_law_some", "_law_kind", "_law_turns", "_law_rare"] "_law_finite" (defScope s_l_finite) f cdv A outer s H E).nox (bf 8) (ifS (andT (blF (bind2 eqF (bind2 modD (bind2 fdivD (vF 1) (cF (.int 8))) (cF (.int 2))) (cF (.int 0)))) (blF (bind2 gtD (appF lenD (consA (bind2 ixD (vR 5) (vF 0)) nilA)) (cF (.int 0))))) (retF (bind2 ixD (bind2 ixD (vR 5) (vF 0)) (bind2 modD (bind2 fdivD (vF 1) (cF (.int 16))) (appF lenD (consA (bind2 ixD (vR 5) (vF 0)) nilA))))) nxF) := by
  rw [bf_eq 8]
  exact (ds_if (DW.dt (dw_and (dt_eq hr (DE.dr (d_mod (DE.dr (d_fdiv (DE.dr (dv 1)) (DE.dr d_int))) (DE.dr d_int))) (DE.dr d_int)) (dw_and1 (dt_gt (DE.dr (d_callB call_lenG fnR_len rfl T.len_b (by rfl) (dar_cons (DE.dr (d_ix (dvr 5) (DE.dr (dv 0)))) dar_nil))) (DE.dr d_int))))) (dss_one (ds_ret (d_ix (DE.dr (d_ix (dvr 5) (DE.dr (dv 0)))) (DE.dr (d_mod (DE.dr (d_fdiv (DE.dr (dv 1)) (DE.dr d_int))) (DE.dr (d_callB call_lenG fnR_len rfl T.len_b (by rfl) (dar_cons (DE.dr (d_ix (dvr 5) (DE.dr (dv 0)))) dar_nil)))))))) dss_nil)
theorem st_l_finite_9 {P : Program} {w : World} {K : PySem.W.Frag} {mg : Str → Option Value} {base : Heap} {f : Addr} (T : Txt K mg) (h_l_chain : HasFn P w K mg base 1 "_law_chain" 1 g_l_chain) (cdv : Value) (A : Around) (outer : List Env) (s : Shared) (H : Hp) (E : XK) (hr : Room 1 (A.deeper (envOfC "_law_finite" (defScope s_l_finite) s.heap.objs.size f cdv))) :
    DS (cxOf CX0 P w K mg base ["_law_many", "_law_number", "_law_some", "_law_kind", "_law_turns", "_law_rare"] "_law_finite" (defScope s_l_finite) f cdv A outer s H E).nox (bf 9) (retF (tupF (consA (vF 3) (consA (vF 4) nilA)))) := by
  rw [bf_eq 9]
  exact (ds_ret (d_tup (da_cons (dv 3) (da_cons (dv 4) da_nil))))
theorem ok_l_finite {P : Program} {w : World} {K : PySem.W.Frag} {mg : Str → Option Value} {base : Heap} {f : Addr} {fd : FuncData} (Fn : Fun K "_law_finite" "_law_finite" s_l_finite f fd) (T : Txt K mg) (h_l_chain : HasFn P w K mg base 1 "_law_chain" 1 g_l_chain) :
    FnOk P w K mg base CX0 2 f fd ["_law_many", "_law_number"] (spF K 2 g_l_finite) :=
  fn_den (k := 1) (m := 6) (F := F_l_finite) rfl rfl Fn sc_l_finite fun cdv A outer s H E hr => (by rw [body_l_finite]; exact (dss_cons (st_l_finite_0 T h_l_chain cdv A outer s H E hr) (dss_cons (st_l_finite_1 T h_l_chain cdv A outer s H E hr) (dss_cons (st_l_finite_2 T h_l_chain cdv A outer s H E hr) (dss_cons (st_l_finite_3 T h_l_chain cdv A outer s H E hr) (dss_cons (st_l_finite_4 T h_l_chain cdv A outer s H E hr) (dss_cons (st_l_finite_5 T h_l_chain cdv A outer s H E hr) (dss_cons (st_l_finite_6 T h_l_chain cdv A outer s H E hr) (dss_cons (st_l_finite_7 T h_l_chain cdv A outer s H E hr) (dss_cons (st_l_finite_8 T h_l_chain cdv A outer s H E hr) (dss_one (st_l_finite_9 T h_l_chain cdv A outer s H E hr))))))))))))
noncomputable def F_l_never : FS := (seqF (asgF 2 (mapLst (lstF (consA (appF g_l_chain (consA (bind2 addX (mapLst (mulZ (mapLst (lstF (consA (cF (.int 3)) nilA))) (bind2 subD (vF 0) (cF (.int 2))))) (mapLst (lstF (consA (cF (.int 0)) nilA)))) nilA)) (consA (appF g_l_chain (consA (bind2 addX (bind2 addX (mapLst (lstF (consA (cF (.int 5)) nilA))) (mapLst (mulZ (mapLst (lstF (consA (cF (.int 3)) nilA))) (bind2 subD (vF 0) (cF (.int 3)))))) (mapLst (lstF (consA (cF (.int 4)) nilA)))) nilA)) nilA))))) (seqF (asgF 2 (bind2 addX (vF 2) (mapLst (lstF (consA (appF g_l_chain (consA (bind2 addX (bind2 addX (mapLst (lstF (consA (cF (.int 4)) nilA))) (mapLst (mulZ (mapLst (lstF (consA (cF (.int 3)) nilA))) (bind2 subD (vF 0) (cF (.int 3)))))) (mapLst (lstF (consA (cF (.int 4)) nilA)))) nilA)) (consA (appF g_l_chain (consA (bind2 addX (mapLst (mulZ (mapLst (lstF (consA (cF (.int 3)) nilA))) (bind2 subD (vF 0) (cF (.int 2))))) (mapLst (lstF (consA (cF (.int 6)) nilA)))) nilA)) nilA)))))) (seqF (asgF 2 (bind2 addX (vF 2) (mapLst (lstF (consA (bind2 addX (appF g_l_chain (consA (mapLst (mulZ (mapLst (lstF (consA (cF (.int 3)) nilA))) (bind2 subD (vF 0) (cF (.int 1))))) nilA)) (mapLst (lstF (consA (tupF (consA (cF (.int 0)) (consA (bind2 subD (vF 0) (cF (.int 1))) (consA (cF (.int 3)) nilA)))) nilA)))) (consA (appF g_l_chain (consA (bind2 addX (mapLst (mulZ (mapLst (lstF (consA (cF (.int 3)) nilA))) (bind2 subD (vF 0) (cF (.int 2))))) (mapLst (lstF (consA (cF (.int 5)) nilA)))) nilA)) nilA)))))) (seqF (ifS (blF (bind2 eqF (vF 0) (cF (.int 2)))) (retF (tupF (consA (cF (.str "-")) (consA (appF g_l_chain (consA (mapLst (lstF (consA (cF (.int 0)) nilA))) nilA)) nilA)))) nxF) (seqF (ifS (blF (bind2 eqF (vF 0) (cF (.int 3)))) (retF (tupF (consA (cF (.str "-")) (consA (bind2 ixD (bind2 addX (sliceF (vF 2) noP (exP (cF (.int 5)))) (mapLst (lstF (consA (appF g_l_chain (consA (mapLst (lstF (consA (cF (.int 5)) (consA (cF (.int 5)) nilA)))) nilA)) nilA)))) (bind2 modD (vF 1) (cF (.int 6)))) nilA)))) nxF) (seqF (asgN 3 (lstF (consA (bind2 addX (appF g_l_chain (consA (mapLst (mulZ (mapLst (lstF (consA (cF (.int 3)) nilA))) (bind2 subD (vF 0) (cF (.int 2))))) nilA)) (mapLst (lstF (consA (tupF (consA (bind2 subD (vF 0) (cF (.int 3))) (consA (bind2 subD (vF 0) (cF (.int 1))) (consA (cF (.int 4)) nilA)))) nilA)))) (consA (appF g_l_chain (consA (bind2 addX (mapLst (lstF (consA (cF (.int 3)) (consA (cF (.int 5)) nilA)))) (mapLst (mulZ (mapLst (lstF (consA (cF (.int 3)) nilA))) (bind2 subD (vF 0) (cF (.int 3)))))) nilA)) nilA)))) (seqF (appendF 3 (bind2 addX (mapLst (compF 1 [] (rng2 (consA (cF (.int 1)) (consA (vF 0) nilA))) (nameG 0) ttF (tupF (consA (cF (.int 0)) (consA (vF 0) (consA (cF (.int 3)) nilA)))))) (mapLst (lstF (consA (tupF (consA (cF (.int 1)) (consA (cF (.int 2)) (consA (cF (.int 3)) nilA)))) nilA))))) (seqF (ifS (blF (bind2 gtD (vF 0) (cF (.int 4)))) (retF (tupF (consA (cF (.str "-")) (consA (bind2 ixD (bind2 addX (bind2 addX (vF 2) (vR 3)) (mapLst (lstF (consA (mapLst (compF 1 [] (rng2 (consA (cF (.int 1)) (consA (vF 0) nilA))) (nameG 0) ttF (tupF (consA (cF (.int 0)) (consA (vF 0) (consA (cF (.int 3)) nilA)))))) nilA)))) (bind2 modD (vF 1) (cF (.int 10)))) nilA)))) nxF) (retF (tupF (consA (cF (.str "-")) (consA (bind2 ixD (bind2 addX (sliceF (vF 2) noP (exP (cF (.int 5)))) (vR 3)) (bind2 modD (vF 1) (cF (.int 8)))) nilA))))))))))))
noncomputable def g_l_never : List D → Option D := denF 4 F_l_never
theorem sc_l_never : FnScope ["_law_many", "_law_number", "_law_some", "_law_more"] ["_law_many", "_law_number"] (defScope s_l_never) := ⟨rfl, rfl, rfl, by decide +kernel, rfl, by decide +kernel, by decide +kernel⟩
theorem ok_l_never {P : Program} {w : World} {K : PySem.W.Frag} {mg : Str → Option Value} {base : Heap} {f : Addr} {fd : FuncData} (Fn : Fun K "_law_never" "_law_never" s_l_never f fd) (T : Txt K mg) (h_l_chain : HasFn P w K mg base 1 "_law_chain" 1 g_l_chain) :
    FnOk P w K mg base CX0 2 f fd ["_law_many", "_law_number"] (spF K 2 g_l_never) :=
  fn_den (k := 1) (m := 4) (F := F_l_never) rfl rfl Fn sc_l_never fun cdv A outer s H E hr => (dss_cons (ds_asg 2 sc_l_never.nd (DN.de (dn_lst (da_cons (d_callH h_l_chain (hr.mono (by decide)) rfl (da_cons (d_addX (DE.dr (DN.de (dn_mulZ (DE.dr (DN.de (dn_lst (da_cons d_int da_nil)))) (DE.dr (d_sub (DE.dr (dv 0)) (DE.dr d_int)))))) (DE.dr (DN.de (dn_lst (da_cons d_int da_nil))))) da_nil) (lenAS lenA0)) (da_cons (d_callH h_l_chain (hr.mono (by decide)) rfl (da_cons (d_addX (DE.dr (d_addX (DE.dr (DN.de (dn_lst (da_cons d_int da_nil)))) (DE.dr (DN.de (dn_mulZ (DE.dr (DN.de (dn_lst (da_cons d_int da_nil)))) (DE.dr (d_sub (DE.dr (dv 0)) (DE.dr d_int)))))))) (DE.dr (DN.de (dn_lst (da_cons d_int da_nil))))) da_nil) (lenAS lenA0)) da_nil))))) (dss_cons (ds_asg 2 sc_l_never.nd (d_addX (DE.dr (dv 2)) (DE.dr (DN.de (dn_lst (da_cons (d_callH h_l_chain (hr.mono (by decide)) rfl (da_cons (d_addX (DE.dr (d_addX (DE.dr (DN.de (dn_lst (da_cons d_int da_nil)))) (DE.dr (DN.de (dn_mulZ (DE.dr (DN.de (dn_lst (da_cons d_int da_nil)))) (DE.dr (d_sub (DE.dr (dv 0)) (DE.dr d_int)))))))) (DE.dr (DN.de (dn_lst (da_cons d_int da_nil))))) da_nil) (lenAS lenA0)) (da_cons (d_callH h_l_chain (hr.mono (by decide)) rfl (da_cons (d_addX (DE.dr (DN.de (dn_mulZ (DE.dr (DN.de (dn_lst (da_cons d_int da_nil)))) (DE.dr (d_sub (DE.dr (dv 0)) (DE.dr d_int)))))) (DE.dr (DN.de (dn_lst (da_cons d_int da_nil))))) da_nil) (lenAS lenA0)) da_nil))))))) (dss_cons (ds_asg 2 sc_l_never.nd (d_addX (DE.dr (dv 2)) (DE.dr (DN.de (dn_lst (da_cons (d_addX (DE.dr (d_callH h_l_chain (hr.mono (by decide)) rfl (da_cons (DN.de (dn_mulZ (DE.dr (DN.de (dn_lst (da_cons d_int da_nil)))) (DE.dr (d_sub (DE.dr (dv 0)) (DE.dr d_int))))) da_nil) (lenAS lenA0))) (DE.dr (DN.de (dn_lst (da_cons (d_tup (da_cons d_int (da_cons (d_sub (DE.dr (dv 0)) (DE.dr d_int)) (da_cons d_int da_nil)))) da_nil))))) (da_cons (d_callH h_l_chain (hr.mono (by decide)) rfl (da_cons (d_addX (DE.dr (DN.de (dn_mulZ (DE.dr (DN.de (dn_lst (da_cons d_int da_nil)))) (DE.dr (d_sub (DE.dr (dv 0)) (DE.dr d_int)))))) (DE.dr (DN.de (dn_lst (da_cons d_int da_nil))))) da_nil) (lenAS lenA0)) da_nil))))))) (dss_cons (ds_if (dt_eq hr (DE.dr (dv 0)) (DE.dr d_int)) (dss_one (ds_ret (d_tup (da_cons d_str (da_cons (d_callH h_l_chain (hr.mono (by decide)) rfl (da_cons (DN.de (dn_lst (da_cons d_int da_nil))) da_nil) (lenAS lenA0)) da_nil))))) dss_nil) (dss_cons (ds_if (dt_eq hr (DE.dr (dv 0)) (DE.dr d_int)) (dss_one (ds_ret (d_tup (da_cons d_str (da_cons (d_ix (DE.dr (d_addX (DE.dr (d_slice (DE.dr (dv 2)) dp_no (dp_ex (DE.dr d_int)))) (DE.dr (DN.de (dn_lst (da_cons (d_callH h_l_chain (hr.mono (by decide)) rfl (da_cons (DN.de (dn_lst (da_cons d_int (da_cons d_int da_nil)))) da_nil) (lenAS lenA0)) da_nil)))))) (DE.dr (d_mod (DE.dr (dv 1)) (DE.dr d_int)))) da_nil))))) dss_nil) (dss_cons (ds_asgN 3 sc_l_never.nd (dn_lst (da_cons (d_addX (DE.dr (d_callH h_l_chain (hr.mono (by decide)) rfl (da_cons (DN.de (dn_mulZ (DE.dr (DN.de (dn_lst (da_cons d_int da_nil)))) (DE.dr (d_sub (DE.dr (dv 0)) (DE.dr d_int))))) da_nil) (lenAS lenA0))) (DE.dr (DN.de (dn_lst (da_cons (d_tup (da_cons (d_sub (DE.dr (dv 0)) (DE.dr d_int)) (da_cons (d_sub (DE.dr (dv 0)) (DE.dr d_int)) (da_cons d_int da_nil)))) da_nil))))) (da_cons (d_callH h_l_chain (hr.mono (by decide)) rfl (da_cons (d_addX (DE.dr (DN.de (dn_lst (da_cons d_int (da_cons d_int da_nil))))) (DE.dr (DN.de (dn_mulZ (DE.dr (DN.de (dn_lst (da_cons d_int da_nil)))) (DE.dr (d_sub (DE.dr (dv 0)) (DE.dr d_int))))))) da_nil) (lenAS lenA0)) da_nil)))) (dss_cons (ds_append 3 (d_addX (DE.dr (DN.de (dn_comp (own := ["_law_k"]) (frees := []) (caps := []) rfl (.of (by kernel_rfl)) rfl kn_name (di_range2 rfl T.range_b (dar_cons (DE.dr d_int) (dar_cons (DE.dr (dv 0)) dar_nil))) (fun cl C s H fp => ⟨(dg_name 0 (show List.Nodup (["_law_k"] : List Str) from by decide +kernel)), dq_nil, (d_tup (da_cons d_int (da_cons (dv 0) (da_cons d_int da_nil))))⟩)))) (DE.dr (DN.de (dn_lst (da_cons (d_tup (da_cons d_int (da_cons d_int (da_cons d_int da_nil)))) da_nil)))))) (dss_cons (ds_if (dt_gt (DE.dr (dv 0)) (DE.dr d_int)) (dss_one (ds_ret (d_tup (da_cons d_str (da_cons (d_ix (DE.dr (d_addX (DE.dr (d_addX (DE.dr (dv 2)) (dvr 3))) (DE.dr (DN.de (dn_lst (da_cons (DN.de (dn_comp (own := ["_law_k"]) (frees := []) (caps := []) rfl (.of (by kernel_rfl)) rfl kn_name (di_range2 rfl T.range_b (dar_cons (DE.dr d_int) (dar_cons (DE.dr (dv 0)) dar_nil))) (fun cl C s H fp => ⟨(dg_name 0 (show List.Nodup (["_law_k"] : List Str) from by decide +kernel)), dq_nil, (d_tup (da_cons d_int (da_cons (dv 0) (da_cons d_int da_nil))))⟩))) da_nil)))))) (DE.dr (d_mod (DE.dr (dv 1)) (DE.dr d_int)))) da_nil))))) dss_nil) (dss_one (ds_ret (d_tup (da_cons d_str (da_cons (d_ix (DE.dr (d_addX (DE.dr (d_slice (DE.dr (dv 2)) dp_no (dp_ex (DE.dr d_int)))) (dvr 3))) (DE.dr (d_mod (DE.dr (dv 1)) (DE.dr d_int)))) da_nil)))))))))))))
noncomputable def F_l_built : FS := (seqF (asgF 1 (appF g_l_mix (consA (appF g_l_at (consA (vF 0) (consA (cF (.int 0)) nilA))) (consA (cF (.int 1)) nilA)))) (seqF (asgF 2 (bind2 addX (cF (.int 1)) (bind2 modD (vF 1) (cF (.int 6))))) (seqF (asgN 3 (lstF nilA)) (seqF (asgN 4 (lstF nilA)) (seqF (asgF 5 (cF (.int 0))) (seqF (whileF (blF (bind2 ltD (vF 5) (vF 2))) (seqF (asgF 6 (appF g_l_mix (consA (appF g_l_at (consA (vF 0) (consA (bind2 addX (cF (.int 1)) (vF 5)) nilA))) (consA (cF (.int 2)) nilA)))) (seqF (asgF 7 (bind2 addX (cF (.int 1)) (bind2 modD (vF 6) (bind2 subD (vF 2) (vF 5))))) (seqF (ifS (blF (bind2 eqF (bind2 modD (bind2 fdivD (vF 6) (cF (.int 6))) (cF (.int 3))) (cF (.int 0)))) (asgF 7 (bind2 subD (vF 2) (vF 5))) nxF) (seqF (asgF 8 (appF g_l_finite (consA (vF 7) (consA (bind2 fdivD (vF 6) (cF (.int 32))) nilA)))) (seqF (ifS (andT (blF (bind2 gtD (vF 7) (cF (.int 1)))) (blF (bind2 eqF (bind2 modD (bind2 fdivD (vF 6) (cF (.int 18))) (cF (.int 4))) (cF (.int 0))))) (asgF 8 (appF g_l_never (consA (vF 7) (consA (bind2 fdivD (vF 6) (cF (.int 32))) nilA)))) nxF) (seqF (extendF 3 (mapLst (compF 3 [5] (seqItems (bind2 ixD (vF 8) (cF (.int 1)))) (tupG 3 (consG (nameG 0) (consG (nameG 1) (consG (nameG 2) nilG)))) ttF (tupF (consA (bind2 addX (vF 3) (vF 0)) (consA (bind2 addX (vF 3) (vF 1)) (consA (vF 2) nilA))))))) (seqF (appendF 4 (tupF (consA (mapLst (rngN2 (consA (vF 5) (consA (bind2 addX (vF 5) (vF 7)) nilA)))) (consA (bind2 ixD (vF 8) (cF (.int 0))) nilA)))) (asgF 5 (bind2 addX (vF 5) (vF 7)))))))))) 100000) (frzF 4 (frzF 3 (retF (tupF (consA (vF 2) (consA (vF 3) (consA (vF 4) nilA)))))))))))))
noncomputable def g_l_built : List D → Option D := denF 9 F_l_built
theorem sc_l_built : FnScope ["_law_script", "_law_number", "_law_mirrors", "_law_turns", "_law_due", "_law_begin", "_law_drawn", "_law_many", "_law_made"] ["_law_script"] (defScope s_l_built) := ⟨rfl, rfl, rfl, by decide +kernel, rfl, by decide +kernel, by decide +kernel⟩
theorem ok_l_built {P : Program} {w : World} {K : PySem.W.Frag} {mg : Str → Option Value} {base : Heap} {f : Addr} {fd : FuncData} (Fn : Fun K "_law_built" "_law_built" s_l_built f fd) (T : Txt K mg) (h_l_at : HasFn P w K mg base 1 "_law_at" 2 g_l_at) (h_l_finite : HasFn P w K mg base 2 "_law_finite" 2 g_l_finite) (h_l_mix : HasFn P w K mg base 1 "_law_mix" 2 g_l_mix) (h_l_never : HasFn P w K mg base 2 "_law_never" 2 g_l_never) :
    FnOk P w K mg base CX0 3 f fd ["_law_script"] (spF K 1 g_l_built) :=
  fn_den (k := 2) (m := 9) (F := F_l_built) rfl rfl Fn sc_l_built fun cdv A outer s H E hr => (dss_cons (ds_asg 1 sc_l_built.nd (d_callH h_l_mix (hr.mono (by decide)) rfl (da_cons (d_callH h_l_at (hr.mono (by decide)) rfl (da_cons (dv 0) (da_cons d_int da_nil)) (lenAS (lenAS lenA0))) (da_cons d_int da_nil)) (lenAS (lenAS lenA0)))) (dss_cons (ds_asg 2 sc_l_built.nd (d_addX (DE.dr d_int) (DE.dr (d_mod (DE.dr (dv 1)) (DE.dr d_int))))) (dss_cons (ds_asgN 3 sc_l_built.nd (dn_lst da_nil)) (dss_cons (ds_asgN 4 sc_l_built.nd (dn_lst da_nil)) (dss_cons (ds_asg 5 sc_l_built.nd d_int) (dss_cons (ds_while 100000 PassesOwn.never (dt_lt (DE.dr (dv 5)) (DE.dr (dv 2))) (dss_cons (ds_asg 6 sc_l_built.nd (d_callH h_l_mix (hr.mono (by decide)) rfl (da_cons (d_callH h_l_at (hr.mono (by decide)) rfl (da_cons (dv 0) (da_cons (d_addX (DE.dr d_int) (DE.dr (dv 5))) da_nil)) (lenAS (lenAS lenA0))) (da_cons d_int da_nil)) (lenAS (lenAS lenA0)))) (dss_cons (ds_asg 7 sc_l_built.nd (d_addX (DE.dr d_int) (DE.dr (d_mod (DE.dr (dv 6)) (DE.dr (d_sub (DE.dr (dv 2)) (DE.dr (dv 5)))))))) (dss_cons (ds_if (dt_eq hr (DE.dr (d_mod (DE.dr (d_fdiv (DE.dr (dv 6)) (DE.dr d_int))) (DE.dr d_int))) (DE.dr d_int)) (dss_one (ds_asg 7 sc_l_built.nd (d_sub (DE.dr (dv 2)) (DE.dr (dv 5))))) dss_nil) (dss_cons (ds_asg 8 sc_l_built.nd (d_callH h_l_finite (hr.mono (by decide)) rfl (da_cons (dv 7) (da_cons (d_fdiv (DE.dr (dv 6)) (DE.dr d_int)) da_nil)) (lenAS (lenAS lenA0)))) (dss_cons (ds_if (DW.dt (dw_and (dt_gt (DE.dr (dv 7)) (DE.dr d_int)) (dw_and1 (dt_eq hr (DE.dr (d_mod (DE.dr (d_fdiv (DE.dr (dv 6)) (DE.dr d_int))) (DE.dr d_int))) (DE.dr d_int))))) (dss_one (ds_asg 8 sc_l_built.nd (d_callH h_l_never (hr.mono (by decide)) rfl (da_cons (dv 7) (da_cons (d_fdiv (DE.dr (dv 6)) (DE.dr d_int)) da_nil)) (lenAS (lenAS lenA0))))) dss_nil) (dss_cons (ds_extend 3 (DN.de (dn_comp (own := ["_law_i", "_law_j", "_law_often"]) (frees := ["_law_begin"]) (caps := [5]) rfl (.of (by kernel_rfl)) rfl (kn_tup (kns_cons kn_name (kns_cons kn_name (kns_cons kn_name kns_nil)))) (di_seq (d_ix (DE.dr (dv 8)) (DE.dr d_int))) (fun cl C s H fp => ⟨(dg_tup rfl (dgs_cons (dg_name 0 (show List.Nodup (["_law_i", "_law_j", "_law_often", "_law_begin"] : List Str) from by decide +kernel)) (dgs_cons (dg_name 1 (show List.Nodup (["_law_i", "_law_j", "_law_often", "_law_begin"] : List Str) from by decide +kernel)) (dgs_cons (dg_name 2 (show List.Nodup (["_law_i", "_law_j", "_law_often", "_law_begin"] : List Str) from by decide +kernel)) dgs_nil)))), dq_nil, (d_tup (da_cons (d_addX (DE.dr (dv 3)) (DE.dr (dv 0))) (da_cons (d_addX (DE.dr (dv 3)) (DE.dr (dv 1))) (da_cons (dv 2) da_nil))))⟩)))) (dss_cons (ds_append 4 (d_tup (da_cons (DN.de (dn_listR2 rfl rfl T.list_b rfl T.range_b (dar_cons (DE.dr (dv 5)) (dar_cons (DE.dr (d_addX (DE.dr (dv 5)) (DE.dr (dv 7)))) dar_nil)))) (da_cons (d_ix (DE.dr (dv 8)) (DE.dr d_int)) da_nil)))) (dss_one (ds_asg 5 sc_l_built.nd (d_addX (DE.dr (dv 5)) (DE.dr (dv 7))))))))))))) (dss_frz 4 (dss_frz 3 (dss_one (ds_ret (d_tup (da_cons (dv 2) (da_cons (dv 3) (da_cons (dv 4) da_nil))))))))))))))
noncomputable def F_l_mixed : FS := (seqF (asgG (tupG 3 (consG (nameG 1) (consG (nameG 2) (consG (nameG 3) nilG)))) (appF g_l_built (consA (vF 0) nilA))) (seqF (asgN 4 (rngN1 (consA (vF 1) nilA))) (seqF (forF (seqItems (sliceF (vF 0) (exP (cF (.int 7))) (exP (cF (.int 64))))) (nameG 5) (seqF (asgF 6 (appF g_l_mix (consA (vF 5) (consA (cF (.int 3)) nilA)))) (seqF (asgF 7 (bind2 modD (vF 6) (vF 1))) (seqF (asgF 8 (bind2 modD (bind2 fdivD (vF 6) (cF (.int 8))) (vF 1))) (seqF (asgF 9 (bind2 ixD (vR 4) (vF 7))) (seqF (setIF 4 (vF 7) (bind2 ixD (vR 4) (vF 8))) (setIF 4 (vF 8) (vF 9)))))))) (seqF (asgN 10 (lstF nilA)) (seqF (forF (seqItems (vF 2)) (tupG 3 (consG (nameG 7) (consG (nameG 8) (consG (nameG 11) nilG)))) (appendF 10 (tupF (consA (appF minD (consA (bind2 ixD (vR 4) (vF 7)) (consA (bind2 ixD (vR 4) (vF 8)) nilA))) (consA (appF maxD (consA (bind2 ixD (vR 4) (vF 7)) (consA (bind2 ixD (vR 4) (vF 8)) nilA))) (consA (vF 11) nilA)))))) (seqF (asgN 12 (lstF nilA)) (seqF (forF (seqItems (vF 3)) (tupG 2 (consG (nameG 13) (consG (nameG 14) nilG))) (frzF 4 (appendF 12 (tupF (consA (mapLst (sortN (consA (mapLst (compF 1 [4] (seqItems (vF 13)) (nameG 0) ttF (bind2 ixD (vF 1) (vF 0)))) nilA))) (consA (vF 14) nilA)))))) (frzF 10 (retF (tupF (consA (tupF (consA (vF 1) (consA (vF 10) nilA))) (consA (mapLst (sortHN (consA (vR 12) nilA))) nilA))))))))))))
noncomputable def g_l_mixed : List D → Option D := denF 15 F_l_mixed
theorem sc_l_mixed : FnScope ["_law_script", "_law_mirrors", "_law_turns", "_law_due", "_law_order", "_law_cell", "_law_drawn", "_law_i", "_law_j", "_law_kept", "_law_pairs", "_law_often", "_law_found", "_law_mirrors_told", "_law_kind"] ["_law_script"] (defScope s_l_mixed) := ⟨rfl, rfl, rfl, by decide +kernel, rfl, by decide +kernel, by decide +kernel⟩
theorem ok_l_mixed {P : Program} {w : World} {K : PySem.W.Frag} {mg : Str → Option Value} {base : Heap} {f : Addr} {fd : FuncData} (Fn : Fun K "_law_mixed" "_law_mixed" s_l_mixed f fd) (T : Txt K mg) (h_l_built : HasFn P w K mg base 3 "_law_built" 1 g_l_built) (h_l_mix : HasFn P w K mg base 1 "_law_mix" 2 g_l_mix) :
    FnOk P w K mg base CX0 4 f fd ["_law_script"] (spF K 1 g_l_mixed) :=
  fn_den (k := 3) (m := 15) (F := F_l_mixed) rfl rfl Fn sc_l_mixed fun cdv A outer s H E hr => (dss_cons (ds_asgG (dg_tup rfl (dgs_cons (dg_name 1 sc_l_mixed.nd) (dgs_cons (dg_name 2 sc_l_mixed.nd) (dgs_cons (dg_name 3 sc_l_mixed.nd) dgs_nil)))) (d_callH h_l_built (hr.mono (by decide)) rfl (da_cons (dv 0) da_nil) (lenAS lenA0))) (dss_cons (ds_asgN 4 sc_l_mixed.nd (dn_listR1 rfl rfl T.list_b rfl T.range_b (dar_cons (DE.dr (dv 1)) dar_nil))) (dss_cons (ds_for PassesOwn.never rfl (di_seq (d_slice (DE.dr (dv 0)) (dp_ex (DE.dr d_int)) (dp_ex (DE.dr d_int)))) (dg_name 5 sc_l_mixed.nd) (dss_cons (ds_asg 6 sc_l_mixed.nd (d_callH h_l_mix (hr.mono (by decide)) rfl (da_cons (dv 5) (da_cons d_int da_nil)) (lenAS (lenAS lenA0)))) (dss_cons (ds_asg 7 sc_l_mixed.nd (d_mod (DE.dr (dv 6)) (DE.dr (dv 1)))) (dss_cons (ds_asg 8 sc_l_mixed.nd (d_mod (DE.dr (d_fdiv (DE.dr (dv 6)) (DE.dr d_int))) (DE.dr (dv 1)))) (dss_cons (ds_asg 9 sc_l_mixed.nd (d_ix (dvr 4) (DE.dr (dv 7)))) (dss_cons (ds_setI 4 (d_ix (dvr 4) (DE.dr (dv 8))) (dv 7)) (dss_one (ds_setI 4 (dv 9) (dv 8))))))))) (dss_cons (ds_asgN 10 sc_l_mixed.nd (dn_lst da_nil)) (dss_cons (ds_for PassesOwn.never rfl (di_seq (dv 2)) (dg_tup rfl (dgs_cons (dg_name 7 sc_l_mixed.nd) (dgs_cons (dg_name 8 sc_l_mixed.nd) (dgs_cons (dg_name 11 sc_l_mixed.nd) dgs_nil)))) (dss_one (ds_append 10 (d_tup (da_cons (d_callB (call_min2 rfl) fnR_min rfl T.min_b (by rfl) (dar_cons (DE.dr (d_ix (dvr 4) (DE.dr (dv 7)))) (dar_cons (DE.dr (d_ix (dvr 4) (DE.dr (dv 8)))) dar_nil))) (da_cons (d_callB (call_max2 rfl) fnR_max rfl T.max_b (by rfl) (dar_cons (DE.dr (d_ix (dvr 4) (DE.dr (dv 7)))) (dar_cons (DE.dr (d_ix (dvr 4) (DE.dr (dv 8)))) dar_nil))) (da_cons (dv 11) da_nil))))))) (dss_cons (ds_asgN 12 sc_l_mixed.nd (dn_lst da_nil)) (dss_cons (ds_for PassesOwn.never rfl (di_seq (dv 3)) (dg_tup rfl (dgs_cons (dg_name 13 sc_l_mixed.nd) (dgs_cons (dg_name 14 sc_l_mixed.nd) dgs_nil))) (dss_frz 4 (dss_one (ds_append 12 (d_tup (da_cons (DN.de (dn_sorted rfl T.sorted_b (dar_cons (DE.dr (DN.de (dn_comp (own := ["_law_i"]) (frees := ["_law_order"]) (caps := [4]) rfl (.of (by kernel_rfl)) rfl kn_name (di_seq (dv 13)) (fun cl C s H fp => ⟨(dg_name 0 (show List.Nodup (["_law_i", "_law_order"] : List Str) from by decide +kernel)), dq_nil, (d_ix (DE.dr (dv 1)) (DE.dr (dv 0)))⟩)))) dar_nil))) (da_cons (dv 14) da_nil))))))) (dss_frz 10 (dss_one (ds_ret (d_tup (da_cons (d_tup (da_cons (dv 1) (da_cons (dv 10) da_nil))) (da_cons (DN.de (dn_sortedH hr rfl T.sorted_b (dar_cons (dvr 12) dar_nil))) da_nil)))))))))))))
noncomputable def F_l_same : FS := (seqF (ifS (orT (notT (blF (bind1 (isTy "list") (vF 0)))) (blF (bind2 neF (appF lenD (consA (vF 0) nilA)) (appF lenD (consA (vF 1) nilA))))) (retF (cF (.bl false))) nxF) (seqF (forF (itemsZ (vF 0) (vF 1)) (tupG 2 (consG (nameG 2) (consG (nameG 3) nilG))) (seqF (ifS (orT (notT (blF (bind1 (isTy "tuple") (vF 2)))) (orT (blF (bind2 neF (vF 2) (vF 3))) (orT (notT (blF (bind1 (isTy "list") (bind2 ixD (vF 2) (cF (.int 0)))))) (notT (blF (bind1 (isTy "str") (bind2 ixD (vF 2) (cF (.int 1))))))))) (retF (cF (.bl false))) nxF) (forF (seqItems (bind2 ixD (vF 2) (cF (.int 0)))) (nameG 4) (ifS (notT (blF (appF g_l_whole (consA (vF 4) nilA)))) (retF (cF (.bl false))) nxF)))) (retF (cF (.bl true)))))
noncomputable def g_l_same : List D → Option D := denF 5 F_l_same
theorem sc_l_same : FnScope ["_law_found", "_law_due", "_law_one", "_law_other", "_law_mirror"] ["_law_found", "_law_due"] (defScope s_l_same) := ⟨rfl, rfl, rfl, by decide +kernel, rfl, by decide +kernel, by decide +kernel⟩
theorem ok_l_same {P : Program} {w : World} {K : PySem.W.Frag} {mg : Str → Option Value} {base : Heap} {f : Addr} {fd : FuncData} (Fn : Fun K "_law_same" "_law_same" s_l_same f fd) (T : Txt K mg) (h_l_whole : HasFn P w K mg base 1 "_law_whole" 1 g_l_whole) :
    FnOk P w K mg base CX0 2 f fd ["_law_found", "_law_due"] (spF K 2 g_l_same) :=
  fn_den (k := 1) (m := 5) (F := F_l_same) rfl rfl Fn sc_l_same fun cdv A outer s H E hr => (dss_cons (ds_if (DW.dt (dw_or (dt_not (dt_val (DE.dr (d_isTy ty_list (DE.dr (dv 0)) rfl T.isinstance_b rfl T.list_b)))) (dw_or1 (dt_ne hr (DE.dr (d_callB call_lenG fnR_len rfl T.len_b (by rfl) (dar_cons (DE.dr (dv 0)) dar_nil))) (DE.dr (d_callB call_lenG fnR_len rfl T.len_b (by rfl) (dar_cons (DE.dr (dv 1)) dar_nil))))))) (dss_one (ds_ret d_bl)) dss_nil) (dss_cons (ds_for PassesOwn.never rfl (di_zip rfl T.zip_b (dv 0) (dv 1)) (dg_tup rfl (dgs_cons (dg_name 2 sc_l_same.nd) (dgs_cons (dg_name 3 sc_l_same.nd) dgs_nil))) (dss_cons (ds_if (DW.dt (dw_or (dt_not (dt_val (DE.dr (d_isTy ty_tuple (DE.dr (dv 2)) rfl T.isinstance_b rfl T.tuple_b)))) (dw_or (dt_ne hr (DE.dr (dv 2)) (DE.dr (dv 3))) (dw_or (dt_not (dt_val (DE.dr (d_isTy ty_list (DE.dr (d_ix (DE.dr (dv 2)) (DE.dr d_int))) rfl T.isinstance_b rfl T.list_b)))) (dw_or1 (dt_not (dt_val (DE.dr (d_isTy ty_str (DE.dr (d_ix (DE.dr (dv 2)) (DE.dr d_int))) rfl T.isinstance_b rfl T.str_b))))))))) (dss_one (ds_ret d_bl)) dss_nil) (dss_one (ds_for PassesOwn.never rfl (di_seq (d_ix (DE.dr (dv 2)) (DE.dr d_int))) (dg_name 4 sc_l_same.nd) (dss_one (ds_if (dt_not (dt_val (DE.dr (d_callH h_l_whole (hr.mono (by decide)) rfl (da_cons (dv 4) da_nil) (lenAS lenA0))))) (dss_one (ds_ret d_bl)) dss_nil)))))) (dss_one (ds_ret d_bl))))
noncomputable def F_0 : FS := (asgG (tupG 2 (consG (nameG 1) (consG (nameG 2) nilG))) (appF g_l_mixed (consA (vF 0) nilA)))
noncomputable def F_1 : FS := (asgF 3 (tupF (consA (bind2 ixD (vF 1) (cF (.int 0))) (consA (mapLst (listN (consA (bind2 ixD (vF 1) (cF (.int 1))) nilA))) nilA))))
noncomputable def F_t : FS := (retF (andV (appF g_l_same (consA (appF g_kinds (consA (vF 3) nilA)) (consA (vF 2) nilA))) (bind2 eqF (vF 3) (vF 1))))
abbrev rhoL (s h w hd : D) : Rho := [.fr s, .fr h, .fr w, .fr hd, .no]
def GL (s : D) : Prop := ∃ (h : D) (n : Int) (ts : List GH.T3) (R : List HR), seqF F_0 F_1 [.fr s, .no, .no, .no, .no] = some (.nx (rhoL s h (.lst (R.map hrD)) (.tup [.int n, .lst (ts.map GH.tD)]))) ∧ g_kinds [.tup [.int n, .lst (ts.map GH.tD)]] = some (.lst (R.map hrD)) ∧ R ≠ [] ∧ R.length < sizeLine ∧ (∀ r ∈ R, r.1.2.length + 1 < sizeLine) ∧ g_l_same [.lst (R.map hrD), .lst (R.map hrD)] = some (.bl true) ∧ F_t (rhoL s h (.lst (R.map hrD)) (.tup [.int n, .lst (ts.map GH.tD)])) = some (.rt (.bl true))
noncomputable def g_law : List D → Option D
  | [s] => @ite _ (GL s) (Classical.propDecidable _) (some (.bl true)) none
  | _ => none
theorem sc_law : FnScope ["_law_script", "_law_house", "_law_due", "_law_handed", "_law_told"] ["_law_script"] (defScope s_law) := ⟨rfl, rfl, rfl, by decide +kernel, rfl, by decide +kernel, by decide +kernel⟩
theorem ps_facts {X : Cx} {st : Stmt} {t : TS} (h : PS X st t) : PS X st (fun D σ H => (∀ a xs ys, SqT X.K H a xs → SqT X.K H a ys → xs = ys) → (∀ a xs ys, SqL X.K H a xs → SqL X.K H a ys → xs = ys) → t D σ H) := by
  intro pins s σ H D I hw
  exact h pins s σ H D I (hw (fun a xs ys => I.tuple_inj) (fun a xs ys => I.list_inj))
noncomputable def tupO (o : HO) : Prop := (∃ xs, o = .tup xs) ∨ ∃ u xs, o = .frz u (.tup xs)
noncomputable def only (Hf : Hp) (l : Addr) : Hp := fun b => @ite _ (b = l ∨ ∃ o, Hf b = some o ∧ tupO o) (Classical.propDecidable _) (Hf b) none
theorem only_sub {Hf : Hp} {l : Addr} : Same (only Hf l) Hf := fun b o e => by
  unfold only at e
  split at e
  · exact e
  · cases e
theorem only_keep {Hf : Hp} {l b : Addr} {o : HO} (e : Hf b = some o) (h : b = l ∨ tupO o) : only Hf l b = some o := by
  unfold only
  rw [if_pos (h.imp id fun z => ⟨o, e, z⟩)]
  exact e
theorem only_l {Hf : Hp} {l b : Addr} {o : HO} (e : only Hf l b = some o) (h : ¬ tupO o) : b = l := by
  have e' := only_sub b o e
  unfold only at e
  split at e
  · rename_i c
    rcases c with c | ⟨o', e2, c⟩
    · exact c
    · rw [e'] at e2
      cases e2
      exact absurd c h
  · cases e
theorem only_tup {K : PySem.W.Frag} {Hf : Hp} {l a : Addr} {xs : List V} (h : SqT K Hf a xs) : SqT K (only Hf l) a xs := by
  rcases h with (z | ⟨u, z⟩) | z
  · exact .inl (.inl (only_keep z (.inr (.inl ⟨_, rfl⟩))))
  · exact .inl (.inr ⟨u, only_keep z (.inr (.inr ⟨_, _, rfl⟩))⟩)
  · exact .inr z
theorem only_lst {K : PySem.W.Frag} {Hf : Hp} {l : Addr} {xs : List V} (h : SqL K Hf l xs) : SqL K (only Hf l) l xs := by
  rcases h with (z | ⟨u, z⟩) | z
  · exact .inl (.inl (only_keep z (.inl rfl)))
  · exact .inl (.inr ⟨u, only_keep z (.inl rfl)⟩)
  · exact .inr z
theorem only_ts {K : PySem.W.Frag} {Hf : Hp} {l : Addr} : ∀ {ts : List GH.T3} {zs : List V}, HasL K Hf (ts.map GH.tD) zs → HasL K (only Hf l) (ts.map GH.tD) zs
  | [], zs, h => by
    rw [List.map_nil, HasL.nil_iff] at h ⊢
    exact h
  | t :: ts, zs, h => by
    obtain ⟨v, r, rfl, hv, hr⟩ := HasL.cons_iff.mp h
    obtain ⟨a, xs, rfl, q, lx⟩ := Has.tup_iff.mp hv
    refine HasL.cons_iff.mpr ⟨_, _, rfl, Has.tup_iff.mpr ⟨a, xs, rfl, only_tup q, ?_⟩, only_ts hr⟩
    obtain ⟨v0, r0, rfl, h0, lx⟩ := HasL.cons_iff.mp lx
    obtain ⟨v1, r1, rfl, h1, lx⟩ := HasL.cons_iff.mp lx
    obtain ⟨v2, r2, rfl, h2, lx⟩ := HasL.cons_iff.mp lx
    rw [HasL.nil_iff] at lx
    subst lx
    rw [Has.int_iff] at h0 h1 h2
    exact HasL.cons_iff.mpr ⟨_, _, rfl, Has.int_iff.mpr h0, HasL.cons_iff.mpr ⟨_, _, rfl, Has.int_iff.mpr h1, HasL.cons_iff.mpr ⟨_, _, rfl, Has.int_iff.mpr h2, HasL.nil_iff.mpr rfl⟩⟩⟩
theorem sqT_mono {K : PySem.W.Frag} {H H' : Hp} {a : Addr} {xs : List V} (s : Same H H') (h : SqT K H a xs) : SqT K H' a xs := by
  rcases h with (z | ⟨u, z⟩) | z
  · exact .inl (.inl (s _ _ z))
  · exact .inl (.inr ⟨u, s _ _ z⟩)
  · exact .inr z
theorem sqL_mono {K : PySem.W.Frag} {H H' : Hp} {a : Addr} {xs : List V} (s : Same H H') (h : SqL K H a xs) : SqL K H' a xs := by
  rcases h with (z | ⟨u, z⟩) | z
  · exact .inl (.inl (s _ _ z))
  · exact .inl (.inr ⟨u, s _ _ z⟩)
  · exact .inr z
theorem ok_law {P : Program} {w : World} {K : PySem.W.Frag} {mg : Str → Option Value} {base : Heap} {f : Addr} {fd : FuncData} (Fn : Fun K "law" "law" s_law f fd) (T : Txt K mg) (noL : noLst K = true)
    (h_l_mixed : HasFn P w K mg base 4 "_law_mixed" 1 g_l_mixed) (h_l_same : HasFn P w K mg base 2 "_law_same" 2 g_l_same) (h_kinds : HasFn P w K mg base 7 "kinds" 1 g_kinds) :
    FnOk P w K mg base CX0 8 f fd ["_law_script"] (spF K 1 g_law) := by
  obtain ⟨f1, fd1, ps1, F1, m1, k1, b1⟩ := h_kinds.ex
  obtain ⟨f2, fd2, ps2, F2, m2, k2, b2⟩ := h_l_same.ex
  refine Fn.ok (k := 7) sc_law (fun vs H Q E h => ?_) (fun cdv A outer s H vs Q E hr h => ?_)
  · obtain ⟨Hf, ds, d, _, h1, h2, _⟩ := h
    rw [h1.length]; exact h2
  obtain ⟨Hf, ds, d, sf, hl, hn, hg, q⟩ := h
  have tl : DSs (cxOf CX0 P w K mg base ["_law_script", "_law_house", "_law_due", "_law_handed", "_law_told"] "law" (defScope s_law) f cdv A outer s H E).nox ((defBody s_law).drop 6) F_t := (dss_one (ds_ret (d_and (d_callH h_l_same (hr.mono (by decide)) rfl (da_cons (d_callH h_kinds (hr.mono (by decide)) rfl (da_cons (dv 3) da_nil) (lenAS lenA0)) (da_cons (dv 2) da_nil)) (lenAS (lenAS lenA0))) (d_one (d_eq hr (DE.dr (dv 3)) (DE.dr (dv 1)))))))
  refine ⟨_, pss_cons (ds_asgG (dg_tup rfl (dgs_cons (dg_name 1 sc_law.nd) (dgs_cons (dg_name 2 sc_law.nd) dgs_nil))) (d_callH h_l_mixed (hr.mono (by decide)) rfl (da_cons (dv 0) da_nil) (lenAS lenA0))) (pss_cons (ds_asg 3 sc_law.nd (d_tup (da_cons (d_ix (DE.dr (dv 1)) (DE.dr d_int)) (da_cons (DN.de (dn_list rfl T.list_b (dar_cons (DE.dr (d_ix (DE.dr (dv 1)) (DE.dr d_int))) dar_nil))) da_nil))))
    (pss_cons (ps_set (i := 4) sc_law.nd (by rfl) (.inl rfl) (pe_call F1 (hr.mono (by decide)) (by rfl) m1 k1 b1 .nil pass0 (pa_cons (pv 3) pa_nil)))
    (pss_cons (ps_if (pt_not (pt_val (pe_call F2 (hr.mono (by decide)) (by rfl) m2 k2 b2 .nil pass0 (pa_cons (pv 4) (pa_cons (pv 2) pa_nil))))) (pss_one (ps_ret pe_bl)) pss_nil)
    (pss_cons (ps_facts (ps_thaw (ps_expr (pe_bm PySem.F.plainAttrs_list PySem.F.slot_list_append PySem.F.type_list_append mt_append (pe_ix ix_tup (pe_ix ix_list (pv 4) pe_int (by intro _ _; rfl)) pe_int (by intro _ _; rfl)) (pa_cons pe_int pa_nil)))))
    (pss_cons (ps_thaw (ps_expr (pe_bm PySem.F.plainAttrs_list PySem.F.slot_list_append PySem.F.type_list_append mt_append (pv 4) (pa_cons (pe_tup (pa_cons (pe_lst pa_nil) (pa_cons pe_str pa_nil))) pa_nil)))) tl))))), ?_⟩
  obtain ⟨d0, rfl⟩ : ∃ d0, ds = [d0] := by
    match ds, hn with
    | [a], _ => exact ⟨a, rfl⟩
  have hg : @ite _ (GL d0) (Classical.propDecidable _) (some (D.bl true)) none = some d := hg
  by_cases gl : GL d0
  case neg => rw [if_neg gl] at hg; cases hg
  rw [if_pos gl] at hg
  cases hg
  obtain ⟨hh, n, ts, R, e, ek, hne, hz, hz2, es, et⟩ := gl
  obtain ⟨ρ1, e0, e1⟩ := seq_split e
  have R0 := rep_start (N := ["_law_script", "_law_house", "_law_due", "_law_handed", "_law_told"]) sf hl
  refine ⟨H, Hf, _, Hf, .nx ρ1, R0, e0, fun σ1 H1 Hf1 R1 t1 => ?_⟩
  refine ⟨H, Hf, _, Hf1, .nx (rhoL d0 hh (.lst (R.map hrD)) (.tup [.int n, .lst (ts.map GH.tD)])), R1, e1, fun σ5 H5 Hf5 R5 t5 => ?_⟩
  have hlen : σ5.length = 5 := R5.len.symm
  obtain ⟨v3, ev3, hv3⟩ := R5.fr 3 (.tup [.int n, .lst (ts.map GH.tD)]) rfl
  obtain ⟨v2, ev2, hv2⟩ := R5.fr 2 (.lst (R.map hrD)) rfl
  obtain ⟨p, xs, rfl, qp, lp⟩ := Has.tup_iff.mp hv3
  obtain ⟨vn, r1, rfl, hvn, l1⟩ := HasL.cons_iff.mp lp
  obtain ⟨vl, r2, rfl, hvl, l2⟩ := HasL.cons_iff.mp l1
  rw [HasL.nil_iff] at l2
  subst l2
  rw [Has.int_iff] at hvn
  obtain ⟨l, zs, rfl, ql, ll⟩ := Has.lst_iff.mp hvl
  refine ⟨_, ev3, ?_⟩
  unfold tNil
  refine ⟨only Hf5 l, [.tup [.int n, .lst (ts.map GH.tD)]], .lst (R.map hrD), (fun b o z => R5.sf b o (only_sub b o z)), ⟨_, _, rfl, Has.tup_iff.mpr ⟨p, _, rfl, only_tup qp, HasL.cons_iff.mpr ⟨_, _, rfl, Has.int_iff.mpr hvn, HasL.cons_iff.mpr ⟨_, _, rfl, Has.lst_iff.mpr ⟨l, zs, rfl, only_lst ql, only_ts ll⟩, HasL.nil_iff.mpr rfl⟩⟩⟩, rfl⟩, rfl, ek, fun v H6 Hf6 gr hv => ?_⟩
  obtain ⟨a, us, rfl, qa, la⟩ := Has.lst_iff.mp hv
  refine ⟨.ref a, by rw [List.getElem?_set_self (by rw [hlen]; decide)], v2, by rw [List.getElem?_set_ne (by decide)]; exact ev2, ?_⟩
  refine ⟨H6, [.lst (R.map hrD), .lst (R.map hrD)], .bl true, sameR, ⟨_, _, rfl, hv.mono gr.fh, _, _, rfl, (hv2.mono R5.sf).mono gr.h, rfl⟩, rfl, es, fun b H7 Hf7 gr7 hb => ?_⟩
  have eb := Has.bl_iff.mp hb
  subst eb
  refine ⟨true, rfl, iteF ?_⟩
  intro ft fl
  -- the lists
  cases R with
  | nil => exact absurd rfl hne
  | cons r R =>
  obtain ⟨u0, us', rfl, hu0, _⟩ := HasL.cons_iff.mp la
  obtain ⟨qq, ys, rfl, qt, lt⟩ := Has.tup_iff.mp hu0
  obtain ⟨y0, s1, rfl, hy0, lt⟩ := HasL.cons_iff.mp lt
  obtain ⟨y1, s2, rfl, hy1, lt⟩ := HasL.cons_iff.mp lt
  rw [HasL.nil_iff] at lt
  subst lt
  obtain ⟨c, ks, rfl, qc, lc⟩ := Has.lst_iff.mp hy0
  have lenk : ks.length = r.1.2.length + 1 := by rw [lc.length, List.length_map, List.length_cons]
  have lenu : (V.ref qq :: us').length = R.length + 1 := by rw [la.length, List.length_map, List.length_cons]
  obtain ⟨k0, ks', rfl, hk0, _⟩ := HasL.cons_iff.mp lc
  rw [Has.int_iff] at hk0
  subst hk0
  have s67 : Same Hf6 H7 := gr.fh.trans gr7.h
  have so7 : Same (only Hf5 l) H7 := gr.f.trans s67
  have zl : SqL K H7 l zs := sqL_mono so7 (only_lst ql)
  have zt : HasL K H7 (ts.map GH.tD) zs := (only_ts ll).mono so7
  have a7 : SqL K H7 a (.ref qq :: us') := sqL_mono s67 qa
  have c7 : SqL K H7 c (.int r.1.1 :: ks') := sqL_mono s67 qc
  have q7 : SqT K H7 qq [.ref c, y1] := sqT_mono s67 qt
  have na : a ≠ l := fun z => by
    subst z
    have ez := fl a _ _ zl a7
    subst ez
    cases ts with
    | nil => rw [List.map_nil, HasL.nil_iff] at zt; cases zt
    | cons t ts =>
      obtain ⟨w, wr, ew, hw, _⟩ := HasL.cons_iff.mp zt
      cases ew
      obtain ⟨b, bs, eb, qb, lb⟩ := Has.tup_iff.mp hw
      cases eb
      have e2 := ft qq _ _ qb q7
      have := lb.length
      rw [e2] at this
      simp at this
  have nc : c ≠ l := fun z => by
    subst z
    have ez := fl c _ _ zl c7
    subst ez
    cases ts with
    | nil => rw [List.map_nil, HasL.nil_iff] at zt; cases zt
    | cons t ts =>
      obtain ⟨w, wr, ew, hw, _⟩ := HasL.cons_iff.mp zt
      cases ew
      obtain ⟨b, bs, eb, _⟩ := Has.tup_iff.mp hw
      cases eb
  have nac : a ≠ c := fun z => by
    subst z
    have := fl a _ _ a7 c7
    cases this
  have fresh : ∀ (x : Addr) (o : HO), x ≠ l → Hf6 x = some o → ¬ tupO o → H5 x = none := fun x o nx e nt => by
    rcases gr.new x o e with z | z | z
    · exact absurd (only_l z nt) nx
    · exact z
    · obtain ⟨kk, rfl⟩ := z
      exact absurd (.inl ⟨_, rfl⟩) nt
  have nl1 : ∀ zs : List V, ¬ tupO (.lst zs) := fun zs z => by rcases z with ⟨_, z⟩ | ⟨_, _, z⟩ <;> cases z
  have nl2 : ∀ (u : Obj) (zs : List V), ¬ tupO (.frz u (.lst zs)) := fun u zs z => by rcases z with ⟨_, z⟩ | ⟨_, _, z⟩ <;> cases z
  have s57 : ∀ b o, H5 b = some o → H7 b = some o := fun b o e => gr7.h b o (gr.h b o e)
  have h0 : ∀ x, H5 x = none → H x = none := fun x z => by
    cases y : H x with
    | none => rfl
    | some u => have := R5.s0 _ _ y; rw [z] at this; cases this
  have ra : Rd H7 a (.lst (.ref qq :: us')) ∧ H5 a = none := by
    rcases qa with (z | ⟨u, z⟩) | ⟨o, its, m, lk, hc, _⟩
    · exact ⟨.inl (s67 _ _ z), fresh a _ na z (nl1 _)⟩
    · exact ⟨.inr ⟨u, s67 _ _ z⟩, fresh a _ na z (nl2 _ _)⟩
    · exact absurd hc (noLst_not noL lk)
  have rc : Rd H7 c (.lst (.int r.1.1 :: ks')) ∧ H5 c = none := by
    rcases qc with (z | ⟨u, z⟩) | ⟨o, its, m, lk, hc, _⟩
    · exact ⟨.inl (s67 _ _ z), fresh c _ nc z (nl1 _)⟩
    · exact ⟨.inr ⟨u, s67 _ _ z⟩, fresh c _ nc z (nl2 _ _)⟩
    · exact absurd hc (noLst_not noL lk)
  have fin : ∀ H8 : Hp, (∀ b o, H5 b = some o → H8 b = some o) → tS K F_t { nx := fun _ H' => Q .non H', rt := Q } (σ5.set 4 (some (.ref a))) H8 := fun H8 s8 => by
    have R8 : Rep K H Hf (σ5.set 4 (some (.ref a))) (rhoL d0 hh (.lst ((r :: R).map hrD)) (.tup [.int n, .lst (ts.map GH.tD)])) H8 Hf5 := (R5.dropAt 4 (some (.ref a))).grow s8 sameR (R5.sf.trans s8) (fun b o e => .inl e)
    exact ⟨H, Hf, _, Hf5, _, R8, et, fun v σ' ρ' H' Hf' R' _ hv => q v H' Hf' ⟨R'.s0, R'.f0, R'.sf, R'.nf⟩ hv⟩
  have var4 : (σ5.set 4 (some (V.ref a)))[4]? = some (some (.ref a)) := List.getElem?_set_self (by rw [hlen]; decide)
  -- the second change
  have done2 : ∀ Hx : Hp, (∀ b o, H5 b = some o → Hx b = some o) → Hx a = some (.lst (.ref qq :: us')) →
      tDrop (tBM K "list" rAppend (tVar 4) (tCons (tTup (tCons (tLst tNil) (tCons (tC (.str "a0")) tNil))) tNil)) { nx := fun σ' H' => tS K F_t { nx := fun _ H' => Q .non H', rt := Q } σ' H', rt := Q } (σ5.set 4 (some (.ref a))) Hx := fun Hx s5 ha => by
    refine ⟨.ref a, var4, .inl ⟨rfl, _, .inl (.inl ha)⟩, (show 0 ≤ sizeLine from Nat.zero_le _), fun b1 hb1 => ?_⟩
    refine ⟨(show 2 ≤ sizeLine from by decide), fun b2 hb2 => ?_⟩
    have n1 : a ≠ b1 := fun z => by subst z; rw [ha] at hb1; cases hb1
    have n2 : a ≠ b2 := fun z => by subst z; rw [upd_ne n1, ha] at hb2; cases hb2
    refine ⟨a, _, _, rfl, rfl, by rw [upd_ne n2, upd_ne n1]; exact ha, by rw [lenu]; exact hz, fin _ fun d o ed => ?_⟩
    have m1 : d ≠ a := fun z => by subst z; rw [ra.2] at ed; cases ed
    have m2 : d ≠ b1 := fun z => by subst z; have := s5 _ _ ed; rw [hb1] at this; cases this
    have m3 : d ≠ b2 := fun z => by subst z; rw [upd_ne m2, s5 _ _ ed] at hb2; cases hb2
    rw [upd_ne m1, upd_ne m3, upd_ne m2]
    exact s5 d o ed
  -- the first
  have done1 : ∀ Hx : Hp, (∀ b o, H5 b = some o → Hx b = some o) → Rd Hx a (.lst (.ref qq :: us')) → Hx c = some (.lst (.int r.1.1 :: ks')) → SqT K Hx qq [.ref c, y1] →
      tDrop (tBM K "list" rAppend (tOp (rIxT K) (tOp (rIxL K) (tVar 4) (tC (.int 0))) (tC (.int 0))) (tCons (tC (.int 9)) tNil)) { nx := fun σ' H' => (tDrop (tBM K "list" rAppend (tVar 4) (tCons (tTup (tCons (tLst tNil) (tCons (tC (.str "a0")) tNil))) tNil)) { nx := fun σ' H' => tS K F_t { nx := fun _ H' => Q .non H', rt := Q } σ' H', rt := Q } σ' H' ∨ ∃ l o xs, H' l = some (.frz o (.lst xs)) ∧ H l = none ∧ tDrop (tBM K "list" rAppend (tVar 4) (tCons (tTup (tCons (tLst tNil) (tCons (tC (.str "a0")) tNil))) tNil)) { nx := fun σ' H' => tS K F_t { nx := fun _ H' => Q .non H', rt := Q } σ' H', rt := Q } σ' (upd H' l (.lst xs))), rt := Q } (σ5.set 4 (some (.ref a))) Hx := fun Hx s5 ha hc hq => by
    refine ⟨.ref a, var4, a, _, 0, .ref qq, rfl, rfl, .inl ha, atI_nat (j := 0) rfl, qq, _, 0, .ref c, rfl, rfl, hq, atI_nat (j := 0) rfl, .inl ⟨rfl, _, .inl (.inl hc)⟩, c, _, _, rfl, rfl, hc, by rw [lenk]; exact hz2 r List.mem_cons_self, ?_⟩
    have s5' : ∀ b o, H5 b = some o → upd Hx c (.lst (.int r.1.1 :: ks' ++ [.int 9])) b = some o := fun b o e => by
      rw [upd_ne (fun z => by subst z; rw [rc.2] at e; cases e)]
      exact s5 b o e
    rcases ha with ha | ⟨u, ha⟩
    · exact .inl (done2 _ s5' (by rw [upd_ne nac]; exact ha))
    · refine .inr ⟨a, u, _, by rw [upd_ne nac]; exact ha, h0 a ra.2, done2 _ (fun b o e => ?_) upd_same⟩
      rw [upd_ne (fun z => by subst z; rw [ra.2] at e; cases e)]
      exact s5' b o e
  rcases rc.1 with hc | ⟨u, hc⟩
  · exact .inl (done1 H7 s57 ra.1 hc q7)
  · refine .inr ⟨c, u, _, hc, h0 c rc.2, done1 _ (fun b o e => ?_) ?_ upd_same ?_⟩
    · rw [upd_ne (fun z => by subst z; rw [rc.2] at e; cases e)]
      exact s57 b o e
    · rcases ra.1 with z | ⟨o', z⟩
      · exact .inl (by rw [upd_ne nac]; exact z)
      · exact .inr ⟨o', by rw [upd_ne nac]; exact z⟩
    · rcases q7 with (z | ⟨o', z⟩) | z
      · refine .inl (.inl ?_)
        rw [upd_ne (fun y => by subst y; rw [hc] at z; cases z)]; exact z
      · refine .inl (.inr ⟨o', ?_⟩)
        rw [upd_ne (fun y => by subst y; rw [hc] at z; cases z)]; exact z
      · exact .inr z
theorem all_mk {l : PySem.W.OpenLaw} {w : World} {K : PySem.W.Frag} {h : Heap} {mg : Str → Option Value} {fa : Addr} (X : K.In h) (G : h.Ns mainGlobals mg) (hfa : mg "law" = some (.ref fa))
    {f0 : Addr} {oc0 : Value} {od0 an0 : Option Addr} {osl0 : Array (Option Value)} {kV0 doc0 pm0 cdv0 ct0 : Value}
    {f1 : Addr} {oc1 : Value} {od1 an1 : Option Addr} {osl1 : Array (Option Value)} {kV1 doc1 pm1 cdv1 ct1 : Value}
    {f2 : Addr} {oc2 : Value} {od2 an2 : Option Addr} {osl2 : Array (Option Value)} {kV2 doc2 pm2 cdv2 ct2 : Value}
    {f3 : Addr} {oc3 : Value} {od3 an3 : Option Addr} {osl3 : Array (Option Value)} {kV3 doc3 pm3 cdv3 ct3 : Value}
    {f4 : Addr} {oc4 : Value} {od4 an4 : Option Addr} {osl4 : Array (Option Value)} {kV4 doc4 pm4 cdv4 ct4 : Value}
    {f5 : Addr} {oc5 : Value} {od5 an5 : Option Addr} {osl5 : Array (Option Value)} {kV5 doc5 pm5 cdv5 ct5 : Value}
    {f6 : Addr} {oc6 : Value} {od6 an6 : Option Addr} {osl6 : Array (Option Value)} {kV6 doc6 pm6 cdv6 ct6 : Value}
    {f7 : Addr} {oc7 : Value} {od7 an7 : Option Addr} {osl7 : Array (Option Value)} {kV7 doc7 pm7 cdv7 ct7 : Value}
    {f8 : Addr} {oc8 : Value} {od8 an8 : Option Addr} {osl8 : Array (Option Value)} {kV8 doc8 pm8 cdv8 ct8 : Value}
    {f9 : Addr} {oc9 : Value} {od9 an9 : Option Addr} {osl9 : Array (Option Value)} {kV9 doc9 pm9 cdv9 ct9 : Value}
    {f10 : Addr} {oc10 : Value} {od10 an10 : Option Addr} {osl10 : Array (Option Value)} {kV10 doc10 pm10 cdv10 ct10 : Value}
    {f11 : Addr} {oc11 : Value} {od11 an11 : Option Addr} {osl11 : Array (Option Value)} {kV11 doc11 pm11 cdv11 ct11 : Value}
    {f12 : Addr} {oc12 : Value} {od12 an12 : Option Addr} {osl12 : Array (Option Value)} {kV12 doc12 pm12 cdv12 ct12 : Value}
    {f13 : Addr} {oc13 : Value} {od13 an13 : Option Addr} {osl13 : Array (Option Value)} {kV13 doc13 pm13 cdv13 ct13 : Value}
    {f14 : Addr} {oc14 : Value} {od14 an14 : Option Addr} {osl14 : Array (Option Value)} {kV14 doc14 pm14 cdv14 ct14 : Value}
    {f15 : Addr} {oc15 : Value} {od15 an15 : Option Addr} {osl15 : Array (Option Value)} {kV15 doc15 pm15 cdv15 ct15 : Value}
    {f16 : Addr} {oc16 : Value} {od16 an16 : Option Addr} {osl16 : Array (Option Value)} {kV16 doc16 pm16 cdv16 ct16 : Value}
    {f17 : Addr} {oc17 : Value} {od17 an17 : Option Addr} {osl17 : Array (Option Value)} {kV17 doc17 pm17 cdv17 ct17 : Value}
    {f18 : Addr} {oc18 : Value} {od18 an18 : Option Addr} {osl18 : Array (Option Value)} {kV18 doc18 pm18 cdv18 ct18 : Value}
    {f19 : Addr} {oc19 : Value} {od19 an19 : Option Addr} {osl19 : Array (Option Value)} {kV19 doc19 pm19 cdv19 ct19 : Value}
    {f20 : Addr} {oc20 : Value} {od20 an20 : Option Addr} {osl20 : Array (Option Value)} {kV20 doc20 pm20 cdv20 ct20 : Value}
    {f21 : Addr} {oc21 : Value} {od21 an21 : Option Addr} {osl21 : Array (Option Value)} {kV21 doc21 pm21 cdv21 ct21 : Value}
    {f22 : Addr} {oc22 : Value} {od22 an22 : Option Addr} {osl22 : Array (Option Value)} {kV22 doc22 pm22 cdv22 ct22 : Value}
    {f23 : Addr} {oc23 : Value} {od23 an23 : Option Addr} {osl23 : Array (Option Value)} {kV23 doc23 pm23 cdv23 ct23 : Value}
    {f24 : Addr} {oc24 : Value} {od24 an24 : Option Addr} {osl24 : Array (Option Value)} {kV24 doc24 pm24 cdv24 ct24 : Value}
    {t_COMMON_TURN : Tok}
    {t_NOT_TOLD : Tok}
    {t_NO_KIND : Tok}
    {tk_RARE_CHAINS_0_0 : Tok}
    {tk_RARE_CHAINS_0_1 : Tok}
    {tk_RARE_CHAINS_0_2 : Tok}
    {ta_RARE_CHAINS_0 : Addr} {od_RARE_CHAINS_0 : Option Addr} {n_RARE_CHAINS_0 : Nat} {osl_RARE_CHAINS_0 : Array (Option Value)}
    {hh_RARE_CHAINS_0 : Int} {vt_RARE_CHAINS_0 : Tok}
    {tk_RARE_CHAINS_1_0 : Tok}
    {tk_RARE_CHAINS_1_1 : Tok}
    {ta_RARE_CHAINS_1 : Addr} {od_RARE_CHAINS_1 : Option Addr} {n_RARE_CHAINS_1 : Nat} {osl_RARE_CHAINS_1 : Array (Option Value)}
    {hh_RARE_CHAINS_1 : Int} {vt_RARE_CHAINS_1 : Tok}
    {tk_RARE_CHAINS_2_0 : Tok}
    {tk_RARE_CHAINS_2_1 : Tok}
    {tk_RARE_CHAINS_2_2 : Tok}
    {ta_RARE_CHAINS_2 : Addr} {od_RARE_CHAINS_2 : Option Addr} {n_RARE_CHAINS_2 : Nat} {osl_RARE_CHAINS_2 : Array (Option Value)}
    {hh_RARE_CHAINS_2 : Int} {vt_RARE_CHAINS_2 : Tok}
    {tk_RARE_CHAINS_3_0 : Tok}
    {ta_RARE_CHAINS_3 : Addr} {od_RARE_CHAINS_3 : Option Addr} {n_RARE_CHAINS_3 : Nat} {osl_RARE_CHAINS_3 : Array (Option Value)}
    {hh_RARE_CHAINS_3 : Int} {vt_RARE_CHAINS_3 : Tok}
    {tk_RARE_CHAINS_4_0 : Tok}
    {ta_RARE_CHAINS_4 : Addr} {od_RARE_CHAINS_4 : Option Addr} {n_RARE_CHAINS_4 : Nat} {osl_RARE_CHAINS_4 : Array (Option Value)}
    {hh_RARE_CHAINS_4 : Int} {vt_RARE_CHAINS_4 : Tok}
    {da_RARE_CHAINS : Addr} {ep_RARE_CHAINS : Nat}
    (a0 : PySem.W.nsIn K mainGlobals "turn_of" = some (some (.ref f0))) (l0 : K.lookup f0 = some ⟨oc0, od0, .func (PySem.W.fnOf "turn_of" "turn_of" (defArgs s_turn_of) (defBody s_turn_of) (defScope s_turn_of) .none kV0 doc0 pm0 an0 cdv0 ct0), osl0⟩) (c0 : PySem.W.codeIn K cdv0 "turn_of" = true) (k0 : PySem.W.keepIn K (.ref f0) = true)
    (a1 : PySem.W.nsIn K mainGlobals "neighbours" = some (some (.ref f1))) (l1 : K.lookup f1 = some ⟨oc1, od1, .func (PySem.W.fnOf "neighbours" "neighbours" (defArgs s_neighbours) (defBody s_neighbours) (defScope s_neighbours) .none kV1 doc1 pm1 an1 cdv1 ct1), osl1⟩) (c1 : PySem.W.codeIn K cdv1 "neighbours" = true) (k1 : PySem.W.keepIn K (.ref f1) = true)
    (a2 : PySem.W.nsIn K mainGlobals "without" = some (some (.ref f2))) (l2 : K.lookup f2 = some ⟨oc2, od2, .func (PySem.W.fnOf "without" "without" (defArgs s_without) (defBody s_without) (defScope s_without) .none kV2 doc2 pm2 an2 cdv2 ct2), osl2⟩) (c2 : PySem.W.codeIn K cdv2 "without" = true) (k2 : PySem.W.keepIn K (.ref f2) = true)
    (a3 : PySem.W.nsIn K mainGlobals "part_of" = some (some (.ref f3))) (l3 : K.lookup f3 = some ⟨oc3, od3, .func (PySem.W.fnOf "part_of" "part_of" (defArgs s_part_of) (defBody s_part_of) (defScope s_part_of) .none kV3 doc3 pm3 an3 cdv3 ct3), osl3⟩) (c3 : PySem.W.codeIn K cdv3 "part_of" = true) (k3 : PySem.W.keepIn K (.ref f3) = true)
    (a4 : PySem.W.nsIn K mainGlobals "parts" = some (some (.ref f4))) (l4 : K.lookup f4 = some ⟨oc4, od4, .func (PySem.W.fnOf "parts" "parts" (defArgs s_parts) (defBody s_parts) (defScope s_parts) .none kV4 doc4 pm4 an4 cdv4 ct4), osl4⟩) (c4 : PySem.W.codeIn K cdv4 "parts" = true) (k4 : PySem.W.keepIn K (.ref f4) = true)
    (a5 : PySem.W.nsIn K mainGlobals "chain_from" = some (some (.ref f5))) (l5 : K.lookup f5 = some ⟨oc5, od5, .func (PySem.W.fnOf "chain_from" "chain_from" (defArgs s_chain_from) (defBody s_chain_from) (defScope s_chain_from) .none kV5 doc5 pm5 an5 cdv5 ct5), osl5⟩) (c5 : PySem.W.codeIn K cdv5 "chain_from" = true) (k5 : PySem.W.keepIn K (.ref f5) = true)
    (a6 : PySem.W.nsIn K mainGlobals "chains" = some (some (.ref f6))) (l6 : K.lookup f6 = some ⟨oc6, od6, .func (PySem.W.fnOf "chains" "chains" (defArgs s_chains) (defBody s_chains) (defScope s_chains) .none kV6 doc6 pm6 an6 cdv6 ct6), osl6⟩) (c6 : PySem.W.codeIn K cdv6 "chains" = true) (k6 : PySem.W.keepIn K (.ref f6) = true)
    (a7 : PySem.W.nsIn K mainGlobals "turns_along" = some (some (.ref f7))) (l7 : K.lookup f7 = some ⟨oc7, od7, .func (PySem.W.fnOf "turns_along" "turns_along" (defArgs s_turns_along) (defBody s_turns_along) (defScope s_turns_along) .none kV7 doc7 pm7 an7 cdv7 ct7), osl7⟩) (c7 : PySem.W.codeIn K cdv7 "turns_along" = true) (k7 : PySem.W.keepIn K (.ref f7) = true)
    (a8 : PySem.W.nsIn K mainGlobals "kind_of_chain" = some (some (.ref f8))) (l8 : K.lookup f8 = some ⟨oc8, od8, .func (PySem.W.fnOf "kind_of_chain" "kind_of_chain" (defArgs s_kind_of_chain) (defBody s_kind_of_chain) (defScope s_kind_of_chain) .none kV8 doc8 pm8 an8 cdv8 ct8), osl8⟩) (c8 : PySem.W.codeIn K cdv8 "kind_of_chain" = true) (k8 : PySem.W.keepIn K (.ref f8) = true)
    (a9 : PySem.W.nsIn K mainGlobals "kind_with_one_beside" = some (some (.ref f9))) (l9 : K.lookup f9 = some ⟨oc9, od9, .func (PySem.W.fnOf "kind_with_one_beside" "kind_with_one_beside" (defArgs s_kind_with_one_beside) (defBody s_kind_with_one_beside) (defScope s_kind_with_one_beside) .none kV9 doc9 pm9 an9 cdv9 ct9), osl9⟩) (c9 : PySem.W.codeIn K cdv9 "kind_with_one_beside" = true) (k9 : PySem.W.keepIn K (.ref f9) = true)
    (a10 : PySem.W.nsIn K mainGlobals "kinds_by_chains" = some (some (.ref f10))) (l10 : K.lookup f10 = some ⟨oc10, od10, .func (PySem.W.fnOf "kinds_by_chains" "kinds_by_chains" (defArgs s_kinds_by_chains) (defBody s_kinds_by_chains) (defScope s_kinds_by_chains) .none kV10 doc10 pm10 an10 cdv10 ct10), osl10⟩) (c10 : PySem.W.codeIn K cdv10 "kinds_by_chains" = true) (k10 : PySem.W.keepIn K (.ref f10) = true)
    (a11 : PySem.W.nsIn K mainGlobals "all_by_three" = some (some (.ref f11))) (l11 : K.lookup f11 = some ⟨oc11, od11, .func (PySem.W.fnOf "all_by_three" "all_by_three" (defArgs s_all_by_three) (defBody s_all_by_three) (defScope s_all_by_three) .none kV11 doc11 pm11 an11 cdv11 ct11), osl11⟩) (c11 : PySem.W.codeIn K cdv11 "all_by_three" = true) (k11 : PySem.W.keepIn K (.ref f11) = true)
    (a12 : PySem.W.nsIn K mainGlobals "kinds_by_ends" = some (some (.ref f12))) (l12 : K.lookup f12 = some ⟨oc12, od12, .func (PySem.W.fnOf "kinds_by_ends" "kinds_by_ends" (defArgs s_kinds_by_ends) (defBody s_kinds_by_ends) (defScope s_kinds_by_ends) .none kV12 doc12 pm12 an12 cdv12 ct12), osl12⟩) (c12 : PySem.W.codeIn K cdv12 "kinds_by_ends" = true) (k12 : PySem.W.keepIn K (.ref f12) = true)
    (a13 : PySem.W.nsIn K mainGlobals "kind_of" = some (some (.ref f13))) (l13 : K.lookup f13 = some ⟨oc13, od13, .func (PySem.W.fnOf "kind_of" "kind_of" (defArgs s_kind_of) (defBody s_kind_of) (defScope s_kind_of) .none kV13 doc13 pm13 an13 cdv13 ct13), osl13⟩) (c13 : PySem.W.codeIn K cdv13 "kind_of" = true) (k13 : PySem.W.keepIn K (.ref f13) = true)
    (a14 : PySem.W.nsIn K mainGlobals "kinds" = some (some (.ref f14))) (l14 : K.lookup f14 = some ⟨oc14, od14, .func (PySem.W.fnOf "kinds" "kinds" (defArgs s_kinds) (defBody s_kinds) (defScope s_kinds) .none kV14 doc14 pm14 an14 cdv14 ct14), osl14⟩) (c14 : PySem.W.codeIn K cdv14 "kinds" = true) (k14 : PySem.W.keepIn K (.ref f14) = true)
    (a15 : PySem.W.nsIn K mainGlobals "_law_at" = some (some (.ref f15))) (l15 : K.lookup f15 = some ⟨oc15, od15, .func (PySem.W.fnOf "_law_at" "_law_at" (defArgs s_l_at) (defBody s_l_at) (defScope s_l_at) .none kV15 doc15 pm15 an15 cdv15 ct15), osl15⟩) (c15 : PySem.W.codeIn K cdv15 "_law_at" = true) (k15 : PySem.W.keepIn K (.ref f15) = true)
    (a16 : PySem.W.nsIn K mainGlobals "_law_mix" = some (some (.ref f16))) (l16 : K.lookup f16 = some ⟨oc16, od16, .func (PySem.W.fnOf "_law_mix" "_law_mix" (defArgs s_l_mix) (defBody s_l_mix) (defScope s_l_mix) .none kV16 doc16 pm16 an16 cdv16 ct16), osl16⟩) (c16 : PySem.W.codeIn K cdv16 "_law_mix" = true) (k16 : PySem.W.keepIn K (.ref f16) = true)
    (a17 : PySem.W.nsIn K mainGlobals "_law_whole" = some (some (.ref f17))) (l17 : K.lookup f17 = some ⟨oc17, od17, .func (PySem.W.fnOf "_law_whole" "_law_whole" (defArgs s_l_whole) (defBody s_l_whole) (defScope s_l_whole) .none kV17 doc17 pm17 an17 cdv17 ct17), osl17⟩) (c17 : PySem.W.codeIn K cdv17 "_law_whole" = true) (k17 : PySem.W.keepIn K (.ref f17) = true)
    (a18 : PySem.W.nsIn K mainGlobals "_law_chain" = some (some (.ref f18))) (l18 : K.lookup f18 = some ⟨oc18, od18, .func (PySem.W.fnOf "_law_chain" "_law_chain" (defArgs s_l_chain) (defBody s_l_chain) (defScope s_l_chain) .none kV18 doc18 pm18 an18 cdv18 ct18), osl18⟩) (c18 : PySem.W.codeIn K cdv18 "_law_chain" = true) (k18 : PySem.W.keepIn K (.ref f18) = true)
    (a19 : PySem.W.nsIn K mainGlobals "_law_finite" = some (some (.ref f19))) (l19 : K.lookup f19 = some ⟨oc19, od19, .func (PySem.W.fnOf "_law_finite" "_law_finite" (defArgs s_l_finite) (defBody s_l_finite) (defScope s_l_finite) .none kV19 doc19 pm19 an19 cdv19 ct19), osl19⟩) (c19 : PySem.W.codeIn K cdv19 "_law_finite" = true) (k19 : PySem.W.keepIn K (.ref f19) = true)
    (a20 : PySem.W.nsIn K mainGlobals "_law_never" = some (some (.ref f20))) (l20 : K.lookup f20 = some ⟨oc20, od20, .func (PySem.W.fnOf "_law_never" "_law_never" (defArgs s_l_never) (defBody s_l_never) (defScope s_l_never) .none kV20 doc20 pm20 an20 cdv20 ct20), osl20⟩) (c20 : PySem.W.codeIn K cdv20 "_law_never" = true) (k20 : PySem.W.keepIn K (.ref f20) = true)
    (a21 : PySem.W.nsIn K mainGlobals "_law_built" = some (some (.ref f21))) (l21 : K.lookup f21 = some ⟨oc21, od21, .func (PySem.W.fnOf "_law_built" "_law_built" (defArgs s_l_built) (defBody s_l_built) (defScope s_l_built) .none kV21 doc21 pm21 an21 cdv21 ct21), osl21⟩) (c21 : PySem.W.codeIn K cdv21 "_law_built" = true) (k21 : PySem.W.keepIn K (.ref f21) = true)
    (a22 : PySem.W.nsIn K mainGlobals "_law_mixed" = some (some (.ref f22))) (l22 : K.lookup f22 = some ⟨oc22, od22, .func (PySem.W.fnOf "_law_mixed" "_law_mixed" (defArgs s_l_mixed) (defBody s_l_mixed) (defScope s_l_mixed) .none kV22 doc22 pm22 an22 cdv22 ct22), osl22⟩) (c22 : PySem.W.codeIn K cdv22 "_law_mixed" = true) (k22 : PySem.W.keepIn K (.ref f22) = true)
    (a23 : PySem.W.nsIn K mainGlobals "_law_same" = some (some (.ref f23))) (l23 : K.lookup f23 = some ⟨oc23, od23, .func (PySem.W.fnOf "_law_same" "_law_same" (defArgs s_l_same) (defBody s_l_same) (defScope s_l_same) .none kV23 doc23 pm23 an23 cdv23 ct23), osl23⟩) (c23 : PySem.W.codeIn K cdv23 "_law_same" = true) (k23 : PySem.W.keepIn K (.ref f23) = true)
    (a24 : PySem.W.nsIn K mainGlobals "law" = some (some (.ref f24))) (l24 : K.lookup f24 = some ⟨oc24, od24, .func (PySem.W.fnOf "law" "law" (defArgs s_law) (defBody s_law) (defScope s_law) .none kV24 doc24 pm24 an24 cdv24 ct24), osl24⟩) (c24 : PySem.W.codeIn K cdv24 "law" = true) (k24 : PySem.W.keepIn K (.ref f24) = true)
    (b_all : PySem.W.nsIn K mainGlobals "all" = some none)
    (b_bool : PySem.W.nsIn K mainGlobals "bool" = some none)
    (b_enumerate : PySem.W.nsIn K mainGlobals "enumerate" = some none)
    (b_int : PySem.W.nsIn K mainGlobals "int" = some none)
    (b_isinstance : PySem.W.nsIn K mainGlobals "isinstance" = some none)
    (b_len : PySem.W.nsIn K mainGlobals "len" = some none)
    (b_list : PySem.W.nsIn K mainGlobals "list" = some none)
    (b_max : PySem.W.nsIn K mainGlobals "max" = some none)
    (b_min : PySem.W.nsIn K mainGlobals "min" = some none)
    (b_range : PySem.W.nsIn K mainGlobals "range" = some none)
    (b_sorted : PySem.W.nsIn K mainGlobals "sorted" = some none)
    (b_str : PySem.W.nsIn K mainGlobals "str" = some none)
    (b_tuple : PySem.W.nsIn K mainGlobals "tuple" = some none)
    (b_zip : PySem.W.nsIn K mainGlobals "zip" = some none)
    (q_COMMON_TURN : PySem.W.nsIn K mainGlobals "COMMON_TURN" = some (some (.int 3 t_COMMON_TURN)))
    (q_NOT_TOLD : PySem.W.nsIn K mainGlobals "NOT_TOLD" = some (some (.int 2 t_NOT_TOLD)))
    (q_NO_KIND : PySem.W.nsIn K mainGlobals "NO_KIND" = some (some (.str "-" t_NO_KIND)))
    (q_RARE_CHAINS : PySem.W.nsIn K mainGlobals "RARE_CHAINS" = some (some (.ref da_RARE_CHAINS)))
    (r_RARE_CHAINS : K.lookup da_RARE_CHAINS = some ⟨.type "dict", none, .dict #[⟨hh_RARE_CHAINS_0, .ref ta_RARE_CHAINS_0, .str "f4" vt_RARE_CHAINS_0⟩, ⟨hh_RARE_CHAINS_1, .ref ta_RARE_CHAINS_1, .str "h3" vt_RARE_CHAINS_1⟩, ⟨hh_RARE_CHAINS_2, .ref ta_RARE_CHAINS_2, .str "h4" vt_RARE_CHAINS_2⟩, ⟨hh_RARE_CHAINS_3, .ref ta_RARE_CHAINS_3, .str "i5" vt_RARE_CHAINS_3⟩, ⟨hh_RARE_CHAINS_4, .ref ta_RARE_CHAINS_4, .str "i6" vt_RARE_CHAINS_4⟩] ep_RARE_CHAINS, #[]⟩)
    (r_RARE_CHAINS_0 : K.lookup ta_RARE_CHAINS_0 = some ⟨.type "tuple", od_RARE_CHAINS_0, .seq #[.int 3 tk_RARE_CHAINS_0_0, .int 4 tk_RARE_CHAINS_0_1, .int 3 tk_RARE_CHAINS_0_2] n_RARE_CHAINS_0, osl_RARE_CHAINS_0⟩)
    (r_RARE_CHAINS_1 : K.lookup ta_RARE_CHAINS_1 = some ⟨.type "tuple", od_RARE_CHAINS_1, .seq #[.int 3 tk_RARE_CHAINS_1_0, .int 5 tk_RARE_CHAINS_1_1] n_RARE_CHAINS_1, osl_RARE_CHAINS_1⟩)
    (r_RARE_CHAINS_2 : K.lookup ta_RARE_CHAINS_2 = some ⟨.type "tuple", od_RARE_CHAINS_2, .seq #[.int 3 tk_RARE_CHAINS_2_0, .int 3 tk_RARE_CHAINS_2_1, .int 5 tk_RARE_CHAINS_2_2] n_RARE_CHAINS_2, osl_RARE_CHAINS_2⟩)
    (r_RARE_CHAINS_3 : K.lookup ta_RARE_CHAINS_3 = some ⟨.type "tuple", od_RARE_CHAINS_3, .seq #[.int 5 tk_RARE_CHAINS_3_0] n_RARE_CHAINS_3, osl_RARE_CHAINS_3⟩)
    (r_RARE_CHAINS_4 : K.lookup ta_RARE_CHAINS_4 = some ⟨.type "tuple", od_RARE_CHAINS_4, .seq #[.int 6 tk_RARE_CHAINS_4_0] n_RARE_CHAINS_4, osl_RARE_CHAINS_4⟩)
    (kr_y_RARE_CHAINS : (da_RARE_CHAINS == sysModules) = false)
    (kr_z_RARE_CHAINS_0 : hashT [3, 4, 3] = hh_RARE_CHAINS_0)
    (kr_z_RARE_CHAINS_1 : hashT [3, 5] = hh_RARE_CHAINS_1)
    (kr_z_RARE_CHAINS_2 : hashT [3, 3, 5] = hh_RARE_CHAINS_2)
    (kr_z_RARE_CHAINS_3 : hashT [5] = hh_RARE_CHAINS_3)
    (kr_z_RARE_CHAINS_4 : hashT [6] = hh_RARE_CHAINS_4)
    (knl : noLst K = true)
    : ∃ fd : FuncData, (∀ (s : Shared) (v : Value), BindsTo s fd ⟨[v], []⟩ [("_law_script", v)]) ∧ ∀ base : Heap, K.In base → base.Ns mainGlobals mg → FnOk l.prog w K mg base CX0 8 fa fd ["_law_script"] (spF K 1 g_law) := by
  have e := hfa.symm.trans (PySem.W.mg_of X G a24)
  cases e
  have T : Txt K mg := ⟨trivial, PySem.W.mg_none_of X G b_all, PySem.W.mg_none_of X G b_bool, PySem.W.mg_none_of X G b_enumerate, PySem.W.mg_none_of X G b_int, PySem.W.mg_none_of X G b_isinstance, PySem.W.mg_none_of X G b_len, PySem.W.mg_none_of X G b_list, PySem.W.mg_none_of X G b_max, PySem.W.mg_none_of X G b_min, PySem.W.mg_none_of X G b_range, PySem.W.mg_none_of X G b_sorted, PySem.W.mg_none_of X G b_str, PySem.W.mg_none_of X G b_tuple, PySem.W.mg_none_of X G b_zip, ⟨_, PySem.W.mg_of X G q_COMMON_TURN⟩, ⟨_, PySem.W.mg_of X G q_NOT_TOLD⟩, ⟨_, PySem.W.mg_of X G q_NO_KIND⟩, gdictT_mk (PySem.W.mg_of X G q_RARE_CHAINS) r_RARE_CHAINS kr_y_RARE_CHAINS (.cons (ks := [3, 4, 3]) (v := .str "f4") kr_z_RARE_CHAINS_0 r_RARE_CHAINS_0 (.cons ⟨_, rfl⟩ (.cons ⟨_, rfl⟩ (.cons ⟨_, rfl⟩ .nil))) ⟨_, rfl⟩ (Has.str_iff.mpr rfl) (.cons (ks := [3, 5]) (v := .str "h3") kr_z_RARE_CHAINS_1 r_RARE_CHAINS_1 (.cons ⟨_, rfl⟩ (.cons ⟨_, rfl⟩ .nil)) ⟨_, rfl⟩ (Has.str_iff.mpr rfl) (.cons (ks := [3, 3, 5]) (v := .str "h4") kr_z_RARE_CHAINS_2 r_RARE_CHAINS_2 (.cons ⟨_, rfl⟩ (.cons ⟨_, rfl⟩ (.cons ⟨_, rfl⟩ .nil))) ⟨_, rfl⟩ (Has.str_iff.mpr rfl) (.cons (ks := [5]) (v := .str "i5") kr_z_RARE_CHAINS_3 r_RARE_CHAINS_3 (.cons ⟨_, rfl⟩ .nil) ⟨_, rfl⟩ (Has.str_iff.mpr rfl) (.cons (ks := [6]) (v := .str "i6") kr_z_RARE_CHAINS_4 r_RARE_CHAINS_4 (.cons ⟨_, rfl⟩ .nil) ⟨_, rfl⟩ (Has.str_iff.mpr rfl) .nil))))) (by decide)⟩
  have F0 := fun_mk (st := s_turn_of) l0 c0 k0
  have B0 := F0.binds (ps := ["house", "i", "j"]) fun _ _ _ _ _ _ => all3 (fun _ _ _ => rfl)
  have F1 := fun_mk (st := s_neighbours) l1 c1 k1
  have B1 := F1.binds (ps := ["house", "mirror", "others"]) fun _ _ _ _ _ _ => all3 (fun _ _ _ => rfl)
  have F2 := fun_mk (st := s_without) l2 c2 k2
  have B2 := F2.binds (ps := ["mirrors", "mirror"]) fun _ _ _ _ _ _ => all2 (fun _ _ => rfl)
  have F3 := fun_mk (st := s_part_of) l3 c3 k3
  have B3 := F3.binds (ps := ["house", "mirror"]) fun _ _ _ _ _ _ => all2 (fun _ _ => rfl)
  have F4 := fun_mk (st := s_parts) l4 c4 k4
  have B4 := F4.binds (ps := ["house"]) fun _ _ _ _ _ _ => all1 (fun _ => rfl)
  have F5 := fun_mk (st := s_chain_from) l5 c5 k5
  have B5 := F5.binds (ps := ["house", "mirrors", "first"]) fun _ _ _ _ _ _ => all3 (fun _ _ _ => rfl)
  have F6 := fun_mk (st := s_chains) l6 c6 k6
  have B6 := F6.binds (ps := ["house", "mirrors"]) fun _ _ _ _ _ _ => all2 (fun _ _ => rfl)
  have F7 := fun_mk (st := s_turns_along) l7 c7 k7
  have B7 := F7.binds (ps := ["house", "order"]) fun _ _ _ _ _ _ => all2 (fun _ _ => rfl)
  have F8 := fun_mk (st := s_kind_of_chain) l8 c8 k8
  have B8 := F8.binds (ps := ["turns"]) fun _ _ _ _ _ _ => all1 (fun _ => rfl)
  have F9 := fun_mk (st := s_kind_with_one_beside) l9 c9 k9
  have B9 := F9.binds (ps := ["order", "mirror"]) fun _ _ _ _ _ _ => all2 (fun _ _ => rfl)
  have F10 := fun_mk (st := s_kinds_by_chains) l10 c10 k10
  have B10 := F10.binds (ps := ["house", "part"]) fun _ _ _ _ _ _ => all2 (fun _ _ => rfl)
  have F11 := fun_mk (st := s_all_by_three) l11 c11 k11
  have B11 := F11.binds (ps := ["house", "part"]) fun _ _ _ _ _ _ => all2 (fun _ _ => rfl)
  have F12 := fun_mk (st := s_kinds_by_ends) l12 c12 k12
  have B12 := F12.binds (ps := ["house", "part"]) fun _ _ _ _ _ _ => all2 (fun _ _ => rfl)
  have F13 := fun_mk (st := s_kind_of) l13 c13 k13
  have B13 := F13.binds (ps := ["house", "part"]) fun _ _ _ _ _ _ => all2 (fun _ _ => rfl)
  have F14 := fun_mk (st := s_kinds) l14 c14 k14
  have B14 := F14.binds (ps := ["house"]) fun _ _ _ _ _ _ => all1 (fun _ => rfl)
  have F15 := fun_mk (st := s_l_at) l15 c15 k15
  have B15 := F15.binds (ps := ["_law_script", "_law_k"]) fun _ _ _ _ _ _ => all2 (fun _ _ => rfl)
  have F16 := fun_mk (st := s_l_mix) l16 c16 k16
  have B16 := F16.binds (ps := ["_law_number", "_law_place"]) fun _ _ _ _ _ _ => all2 (fun _ _ => rfl)
  have F17 := fun_mk (st := s_l_whole) l17 c17 k17
  have B17 := F17.binds (ps := ["_law_found"]) fun _ _ _ _ _ _ => all1 (fun _ => rfl)
  have F18 := fun_mk (st := s_l_chain) l18 c18 k18
  have B18 := F18.binds (ps := ["_law_turns"]) fun _ _ _ _ _ _ => all1 (fun _ => rfl)
  have F19 := fun_mk (st := s_l_finite) l19 c19 k19
  have B19 := F19.binds (ps := ["_law_many", "_law_number"]) fun _ _ _ _ _ _ => all2 (fun _ _ => rfl)
  have F20 := fun_mk (st := s_l_never) l20 c20 k20
  have B20 := F20.binds (ps := ["_law_many", "_law_number"]) fun _ _ _ _ _ _ => all2 (fun _ _ => rfl)
  have F21 := fun_mk (st := s_l_built) l21 c21 k21
  have B21 := F21.binds (ps := ["_law_script"]) fun _ _ _ _ _ _ => all1 (fun _ => rfl)
  have F22 := fun_mk (st := s_l_mixed) l22 c22 k22
  have B22 := F22.binds (ps := ["_law_script"]) fun _ _ _ _ _ _ => all1 (fun _ => rfl)
  have F23 := fun_mk (st := s_l_same) l23 c23 k23
  have B23 := F23.binds (ps := ["_law_found", "_law_due"]) fun _ _ _ _ _ _ => all2 (fun _ _ => rfl)
  have F24 := fun_mk (st := s_law) l24 c24 k24
  have B24 := F24.binds (ps := ["_law_script"]) fun _ _ _ _ _ _ => all1 (fun _ => rfl)
  refine ⟨PySem.W.fnOf "law" "law" (defArgs s_law) (defBody s_law) (defScope s_law) .none kV24 doc24 pm24 an24 cdv24 ct24, fun s v => .of_eq rfl, fun base _ _ => ?_⟩
  have H0 : HasFn l.prog w K mg base 1 "turn_of" 3 g_turn_of := ⟨⟨_, _, _, ok_turn_of F0 T , PySem.W.mg_of X G a0, k0, B0⟩⟩
  have H1 : HasFn l.prog w K mg base 2 "neighbours" 3 g_neighbours := ⟨⟨_, _, _, ok_neighbours F1 T H0, PySem.W.mg_of X G a1, k1, B1⟩⟩
  have H2 : HasFn l.prog w K mg base 1 "without" 2 g_without := ⟨⟨_, _, _, ok_without F2 T , PySem.W.mg_of X G a2, k2, B2⟩⟩
  have H3 : HasFn l.prog w K mg base 3 "part_of" 2 g_part_of := ⟨⟨_, _, _, ok_part_of F3 T H1 H2, PySem.W.mg_of X G a3, k3, B3⟩⟩
  have H4 : HasFn l.prog w K mg base 4 "parts" 1 g_parts := ⟨⟨_, _, _, ok_parts F4 T H3, PySem.W.mg_of X G a4, k4, B4⟩⟩
  have H5 : HasFn l.prog w K mg base 3 "chain_from" 3 g_chain_from := ⟨⟨_, _, _, ok_chain_from F5 T H1 H2, PySem.W.mg_of X G a5, k5, B5⟩⟩
  have H6 : HasFn l.prog w K mg base 4 "chains" 2 g_chains := ⟨⟨_, _, _, ok_chains F6 T H5, PySem.W.mg_of X G a6, k6, B6⟩⟩
  have H7 : HasFn l.prog w K mg base 2 "turns_along" 2 g_turns_along := ⟨⟨_, _, _, ok_turns_along F7 T H0, PySem.W.mg_of X G a7, k7, B7⟩⟩
  have H8 : HasFn l.prog w K mg base 1 "kind_of_chain" 1 g_kind_of_chain := ⟨⟨_, _, _, ok_kind_of_chain F8 T , PySem.W.mg_of X G a8, k8, B8⟩⟩
  have H9 : HasFn l.prog w K mg base 1 "kind_with_one_beside" 2 g_kind_with_one_beside := ⟨⟨_, _, _, ok_kind_with_one_beside F9 T , PySem.W.mg_of X G a9, k9, B9⟩⟩
  have H10 : HasFn l.prog w K mg base 5 "kinds_by_chains" 2 g_kinds_by_chains := ⟨⟨_, _, _, ok_kinds_by_chains F10 T H6 H8 H7, PySem.W.mg_of X G a10, k10, B10⟩⟩
  have H11 : HasFn l.prog w K mg base 1 "all_by_three" 2 g_all_by_three := ⟨⟨_, _, _, ok_all_by_three F11 T , PySem.W.mg_of X G a11, k11, B11⟩⟩
  have H12 : HasFn l.prog w K mg base 5 "kinds_by_ends" 2 g_kinds_by_ends := ⟨⟨_, _, _, ok_kinds_by_ends F12 T H11 H6 H9 H1 H2, PySem.W.mg_of X G a12, k12, B12⟩⟩
  have H13 : HasFn l.prog w K mg base 6 "kind_of" 2 g_kind_of := ⟨⟨_, _, _, ok_kind_of F13 T H10 H12, PySem.W.mg_of X G a13, k13, B13⟩⟩
  have H14 : HasFn l.prog w K mg base 7 "kinds" 1 g_kinds := ⟨⟨_, _, _, ok_kinds F14 T H13 H4, PySem.W.mg_of X G a14, k14, B14⟩⟩
  have H15 : HasFn l.prog w K mg base 1 "_law_at" 2 g_l_at := ⟨⟨_, _, _, ok_l_at F15 T , PySem.W.mg_of X G a15, k15, B15⟩⟩
  have H16 : HasFn l.prog w K mg base 1 "_law_mix" 2 g_l_mix := ⟨⟨_, _, _, ok_l_mix F16 T , PySem.W.mg_of X G a16, k16, B16⟩⟩
  have H17 : HasFn l.prog w K mg base 1 "_law_whole" 1 g_l_whole := ⟨⟨_, _, _, ok_l_whole F17 T , PySem.W.mg_of X G a17, k17, B17⟩⟩
  have H18 : HasFn l.prog w K mg base 1 "_law_chain" 1 g_l_chain := ⟨⟨_, _, _, ok_l_chain F18 T , PySem.W.mg_of X G a18, k18, B18⟩⟩
  have H19 : HasFn l.prog w K mg base 2 "_law_finite" 2 g_l_finite := ⟨⟨_, _, _, ok_l_finite F19 T H18, PySem.W.mg_of X G a19, k19, B19⟩⟩
  have H20 : HasFn l.prog w K mg base 2 "_law_never" 2 g_l_never := ⟨⟨_, _, _, ok_l_never F20 T H18, PySem.W.mg_of X G a20, k20, B20⟩⟩
  have H21 : HasFn l.prog w K mg base 3 "_law_built" 1 g_l_built := ⟨⟨_, _, _, ok_l_built F21 T H15 H19 H16 H20, PySem.W.mg_of X G a21, k21, B21⟩⟩
  have H22 : HasFn l.prog w K mg base 4 "_law_mixed" 1 g_l_mixed := ⟨⟨_, _, _, ok_l_mixed F22 T H21 H16, PySem.W.mg_of X G a22, k22, B22⟩⟩
  have H23 : HasFn l.prog w K mg base 2 "_law_same" 2 g_l_same := ⟨⟨_, _, _, ok_l_same F23 T H17, PySem.W.mg_of X G a23, k23, B23⟩⟩
  exact ok_law F24 T knl H22 H23 H14
open GH
theorem ix0 {x : D} {l : List D} : ixD (.tup (x :: l)) (.int 0) = some x := by simp [ixD, atI, ixN]
theorem ix1 {x y : D} {l : List D} : ixD (.tup (x :: y :: l)) (.int 1) = some y := by
  have h := atI_nat (xs := x :: y :: l) (j := 1) (v := y) rfl
  exact h
theorem at_val (ns : List Int) (k : Nat) (hk : k ≤ 100) : ∃ c : Int, g_l_at [.lst (ns.map D.int), .int k] = some (.int c) := by
  by_cases h : k < ns.length
  · have e : ixD (.lst (ns.map D.int)) (.int (k : Int)) = some (.int (ns.getD k 0)) := atI_nat (by simp [List.getD_eq_getElem?_getD, h])
    have h' : (k : Int) < (ns.length : Int) := by omega
    exact ⟨ns.getD k 0, by simp [g_l_at, F_l_at, h', e]⟩
  · have h' : ¬ ((k : Int) < (ns.length : Int)) := by omega
    have m : mulD (.int 17) (.int (k : Int)) = some (.int (17 * k)) := mulD_ok (mulOk_l (by decide) (by decide))
    exact ⟨17 * k + 9, by simp [g_l_at, F_l_at, h', m]⟩
theorem mix_loop (k : Int) (s3 : Slot) : ∀ (l : List D) (c : Int) (s2 : Slot), ∃ (c' : Int) (s2' : Slot), loopF (nameG 2) (asgF 0 (bind2 fdivD (vF 0) (cF (.int 2147483648)))) l [.fr (.int c), .fr (.int k), s2, s3] = some (.nx [.fr (.int c'), .fr (.int k), s2', s3])
  | [], c, s2 => ⟨c, s2, rfl⟩
  | d :: l, c, s2 => by
    obtain ⟨c', s2', e⟩ := mix_loop k s3 l (c / 2147483648) (.fr d)
    refine ⟨c', s2', ?_⟩
    have f := fdivD_ok (i := c) (show (0 : Int) < 2147483648 by decide) (by decide)
    unfold loopF
    simp only [s_nameG, Option.bind_some, List.set_cons_succ, List.set_cons_zero, s_asgF, s_bind2, s_vF, s_cF, List.getElem?_cons_zero, List.getElem?_cons_succ, f]
    exact e
theorem mix_val (c : Int) (k : Nat) (hk : k ≤ 1000) : ∃ z : Int, 0 ≤ z ∧ z < 2147483648 ∧ g_l_mix [.int c, .int k] = some (.int z) := by
  have p12 : powD (.int 10) (.int 12) = some (.int (10 ^ 12)) := powD_ok ⟨by decide, by decide, lt_big (k := 8) (by decide) (by decide)⟩
  by_cases hc : (10 : Int) ^ 12 ≤ c
  · have f12 := fdivD_ok (i := c) (show (0 : Int) < 10 ^ 12 by decide) (by decide)
    have md := modD_ok (i := (k : Int)) (show (0 : Int) < 61 by decide)
    have ra : rangeA [.int ((k : Int) % 61)] = some (rangeD 0 ((k : Int) % 61)) := rangeA_ok (by omega) (by omega)
    obtain ⟨c', s2', e⟩ := mix_loop (k : Int) .no (rangeD 0 ((k : Int) % 61)) (c / 10 ^ 12 - 1) .no
    have md2 := modD_ok (i := c') (show (0 : Int) < 2147483648 by decide)
    refine ⟨c' % 2147483648, by omega, by omega, ?_⟩
    simp only [g_l_mix, F_l_mix, s_denF, s_startR, List.map_cons, List.map_nil, List.length_cons, List.length_nil, Nat.reduceAdd, Nat.reduceSub, List.replicate, List.cons_append, List.nil_append, s_seqF, s_ifS, s_blF, s_bind2, s_vF, s_cF, List.getElem?_cons_zero, List.getElem?_cons_succ, Option.bind_some, p12, s_ge, hc, decide_true, if_true, s_asgF, f12, s_sub, List.set_cons_zero, List.set_cons_succ, s_forF, s_rng1, s_consA, s_nilA, md, ra]
    rw [e]
    simp only [Option.bind_some, s_retF, s_bind2, s_vF, s_cF, List.getElem?_cons_zero, md2, s_outR]
  · have h0 : (0 : Int) ≤ (k : Int) * k := Int.mul_nonneg (by omega) (by omega)
    have h1 : (k : Int) * k ≤ 1000 * 1000 := Int.mul_le_mul (by omega) (by omega) (by omega) (by omega)
    have m1 : mulD (.int 8) (.int (k : Int)) = _ := mulD_ok (mulOk_l (by omega) (by omega))
    have m2 : mulD (.int (8 * (k : Int))) (.int (k : Int)) = _ := mulD_ok (mulOk_l (by omega) (by omega))
    have m3 : ∀ x : Int, mulD (.int (x % 2147483629 + k + 1)) (.int (8 * (k : Int) * k + 48271)) = _ := fun x => mulD_ok (mulOk_l (by omega) (by omega))
    have m4 : ∀ x : Int, mulD (.int (x % 2147483647)) (.int (x % 2147483647)) = _ := fun x => mulD_ok (mulOk_l (by omega) (by omega))
    have m5 : ∀ x y : Int, mulD (.int (x % 2147483587)) (.int y) = _ := fun x y => mulD_ok (mulOk_l (by omega) (by omega))
    refine ⟨_, ?_, ?_, by simp only [g_l_mix, F_l_mix, s_denF, s_startR, List.map_cons, List.map_nil, List.length_cons, List.length_nil, Nat.reduceAdd, Nat.reduceSub, List.replicate, List.cons_append, List.nil_append, s_seqF, s_ifS, s_blF, s_bind2, s_vF, s_cF, List.getElem?_cons_zero, List.getElem?_cons_succ, Option.bind_some, p12, s_ge, hc, decide_false, Bool.false_eq_true, if_false, s_nxF, s_asgF, m1, m2, s_add, modD_ok (show (0 : Int) < 2147483629 by decide), m3, modD_ok (show (0 : Int) < 2147483647 by decide), List.set_cons_succ, List.set_cons_zero, s_retF, m4, modD_ok (show (0 : Int) < 2147483587 by decide), m5, modD_ok (show (0 : Int) < 2147483579 by decide), s_outR]; rfl⟩ <;> omega
theorem turn_loop (h : D) (i j a b : Int) : ∀ (ts : List T3) (s1 s2 s3 : Slot), ∃ o, loopF (tupG 3 (consG (nameG 5) (consG (nameG 6) (consG (nameG 7) nilG)))) (ifS (andT (blF (bind2 eqF (vF 5) (vF 3))) (blF (bind2 eqF (vF 6) (vF 4)))) (retF (vF 7)) nxF) (ts.map tD)
    [.fr h, .fr (.int i), .fr (.int j), .fr (.int (mlo i j)), .fr (.int (mhi i j)), s1, s2, s3] = some o ∧ outD ((some o).bind fun o => match o with | .nx ρ' => retF (cF (.int 2)) ρ' | o => some o) = some (.int (turnM ts i j))
  | [], s1, s2, s3 => ⟨_, rfl, rfl⟩
  | t :: ts, s1, s2, s3 => by
    obtain ⟨o, h1, h2⟩ := turn_loop h i j a b ts (.fr (.int t.1)) (.fr (.int t.2.1)) (.fr (.int t.2.2))
    rw [List.map_cons]
    unfold loopF turnM
    by_cases c1 : t.1 = mlo i j
    · by_cases c2 : t.2.1 = mhi i j
      · exact ⟨.rt (.int t.2.2), by simp [tD, c1, c2], by simp [c1, c2]⟩
      · refine ⟨o, ?_, by simpa [c2] using h2⟩
        simp [tD, c1, c2] at h1 ⊢
        exact h1
    · refine ⟨o, ?_, by simpa [c1] using h2⟩
      simp [tD, c1] at h1 ⊢
      exact h1
theorem turn_val (n : Nat) (ts : List T3) (i j : Int) : g_turn_of [houseD n ts, .int i, .int j] = some (.int (turnM ts i j)) := by
  obtain ⟨o, h1, h2⟩ := turn_loop (houseD n ts) i j 0 0 ts .no .no .no
  have e : ixD (houseD n ts) (.int 1) = some (.lst (ts.map tD)) := by unfold houseD; exact ix1
  simp [g_turn_of, F_turn_of, e, List.replicate] at h2 ⊢
  unfold mlo mhi at h1
  simp at h1
  rw [h1]
  exact h2
theorem szl {n : Nat} (h : n ≤ 100) : n ≤ sizeLine := Nat.le_of_lt (small1000 (by omega))
theorem compG {α : Type} {γ : FG} {ft : FT} {f : FE} {C : List Slot} {ι : α → D} {nm : α → List Slot} {q : α → Bool} {φ : α → D} {k : Nat}
    (hγ : ∀ a (pre : List Slot), pre.length = k → γ (ι a) (pre ++ C) = some (nm a ++ C)) (hk : ∀ a, (nm a).length = k) : ∀ (l : List α), (∀ a ∈ l, ft (nm a ++ C) = some (q a)) → (∀ a ∈ l, q a = true → f (nm a ++ C) = some (φ a)) → ∀ pre : List Slot, pre.length = k →
    compGo γ ft f (l.map ι) (pre ++ C) = some ((l.filter q).map φ)
  | [], _, _, _, _ => rfl
  | a :: l, ht, hf, pre, hp => by
    have ih := compG hγ hk l (fun b hb => ht b (List.mem_cons_of_mem _ hb)) (fun b hb => hf b (List.mem_cons_of_mem _ hb)) (nm a) (hk a)
    rw [List.map_cons]
    unfold compGo
    rw [hγ a pre hp, Option.bind_some, ht a List.mem_cons_self, Option.bind_some, ih]
    cases c : q a with
    | true => rw [if_pos rfl, hf a List.mem_cons_self c, List.filter_cons_of_pos c]; rfl
    | false => rw [if_neg (by simp), List.filter_cons_of_neg (by simp [c])]
theorem comp1G {α : Type} {ft : FT} {f : FE} {C : List Slot} {ι : α → D} {q : α → Bool} {φ : α → D} (l : List α) (s : Slot) (ht : ∀ a ∈ l, ft (.fr (ι a) :: C) = some (q a)) (hf : ∀ a ∈ l, q a = true → f (.fr (ι a) :: C) = some (φ a)) :
    compGo (nameG 0) ft f (l.map ι) (s :: C) = some ((l.filter q).map φ) :=
  compG (nm := fun a => [.fr (ι a)]) (k := 1) (fun a pre hp => by
    match pre, hp with
    | [x], _ => rfl) (fun _ => rfl) l ht hf [s] rfl
theorem comp1M {α : Type} {f : FE} {C : List Slot} {ι : α → D} {φ : α → D} (l : List α) (s : Slot) (hf : ∀ a ∈ l, f (.fr (ι a) :: C) = some (φ a)) :
    compGo (nameG 0) ttF f (l.map ι) (s :: C) = some (l.map φ) := by
  have := comp1G (ft := ttF) (q := fun _ => true) l s (fun _ _ => rfl) (fun a ha _ => hf a ha)
  rwa [List.filter_eq_self.mpr (fun _ _ => rfl)] at this
theorem comp2G {α : Type} {ft : FT} {f : FE} {C : List Slot} {ι κ : α → D} {q : α → Bool} {φ : α → D} (l : List α) (s s' : Slot) (ht : ∀ a ∈ l, ft (.fr (ι a) :: .fr (κ a) :: C) = some (q a)) (hf : ∀ a ∈ l, q a = true → f (.fr (ι a) :: .fr (κ a) :: C) = some (φ a)) :
    compGo (tupG 2 (consG (nameG 0) (consG (nameG 1) nilG))) ft f (l.map fun a => .tup [ι a, κ a]) (s :: s' :: C) = some ((l.filter q).map φ) :=
  compG (nm := fun a => [.fr (ι a), .fr (κ a)]) (k := 2) (fun a pre hp => by
    match pre, hp with
    | [x, y], _ => rfl) (fun _ => rfl) l ht hf [s, s'] rfl
theorem comp3G {α : Type} {ft : FT} {f : FE} {C : List Slot} {ι κ μ : α → D} {q : α → Bool} {φ : α → D} (l : List α) (s s' s'' : Slot) (ht : ∀ a ∈ l, ft (.fr (ι a) :: .fr (κ a) :: .fr (μ a) :: C) = some (q a)) (hf : ∀ a ∈ l, q a = true → f (.fr (ι a) :: .fr (κ a) :: .fr (μ a) :: C) = some (φ a)) :
    compGo (tupG 3 (consG (nameG 0) (consG (nameG 1) (consG (nameG 2) nilG)))) ft f (l.map fun a => .tup [ι a, κ a, μ a]) (s :: s' :: s'' :: C) = some ((l.filter q).map φ) :=
  compG (nm := fun a => [.fr (ι a), .fr (κ a), .fr (μ a)]) (k := 3) (fun a pre hp => by
    match pre, hp with
    | [x, y, z], _ => rfl) (fun _ => rfl) l ht hf [s, s', s''] rfl
abbrev lD (l : List Int) : D := .lst (l.map D.int)
theorem nb_val (n : Nat) (ts : List T3) (x : Int) (l : List Int) (hl : l.length ≤ 100) : g_neighbours [houseD n ts, .int x, lD l] = some (lD (nbM (turnM ts) x l)) := by
  have e := comp1G (ft := andT (blF (bind2 neF (vF 0) (vF 1))) (blF (bind2 neF (appF g_turn_of (consA (vF 2) (consA (vF 1) (consA (vF 0) nilA)))) (cF (.int 2))))) (f := vF 0) (C := [.fr (.int x), .fr (houseD n ts)]) (ι := D.int) (q := fun o => decide (o ≠ x) && decide (turnM ts x o ≠ 2)) (φ := D.int) l .no
    (fun o _ => by
      by_cases c : o = x
      · simp [c]
      · by_cases c' : turnM ts x o = 2 <;> simp [c, c', turn_val]) (fun o _ _ => rfl)
  have hz : (l.map D.int).length ≤ sizeLine := by rw [List.length_map]; exact szl hl
  simp only [g_neighbours, F_neighbours, s_denF, s_startR, s_retF, s_mapLst, s_compF, s_seqItems, s_vF, List.map_cons, List.map_nil, List.length_cons, List.length_nil, Nat.reduceAdd, Nat.reduceSub, List.replicate, List.append_nil, List.getElem?_cons_zero, List.getElem?_cons_succ, Option.bind_some, s_seqL, if_pos hz, s_compS, s_capS, List.cons_append, List.nil_append, e, Option.map_some, s_outR]
  rfl
theorem wo_val (l : List Int) (x : Int) (hl : l.length ≤ 100) : g_without [lD l, .int x] = some (lD (woM l x)) := by
  have e := comp1G (ft := blF (bind2 neF (vF 0) (vF 1))) (f := vF 0) (C := [.fr (.int x)]) (ι := D.int) (q := fun o => decide (o ≠ x)) (φ := D.int) l .no
    (fun o _ => by
      by_cases c : o = x <;> simp [c]) (fun o _ _ => rfl)
  have hz : (l.map D.int).length ≤ sizeLine := by rw [List.length_map]; exact szl hl
  simp only [g_without, F_without, s_denF, s_startR, s_retF, s_mapLst, s_compF, s_seqItems, s_vF, List.map_cons, List.map_nil, List.length_cons, List.length_nil, Nat.reduceAdd, Nat.reduceSub, List.replicate, List.append_nil, List.getElem?_cons_zero, List.getElem?_cons_succ, Option.bind_some, s_seqL, if_pos hz, s_compS, s_capS, List.cons_append, List.nil_append, e, Option.map_some, s_outR]
  rfl
theorem nb_split (t : Int → Int → Int) (x : Int) (left : List Int) : (nbM t x left).length + (left.filter fun o => decide (o ∉ nbM t x left)).length = left.length := by
  have hf : ∀ o ∈ left, (decide (o ∉ nbM t x left)) = !(decide (o ≠ x) && decide (t x o ≠ 2)) := fun o ho => by
    have : o ∈ nbM t x left ↔ (decide (o ≠ x) && decide (t x o ≠ 2)) = true := by
      unfold nbM; rw [List.mem_filter]; exact ⟨fun z => z.2, fun z => ⟨ho, z⟩⟩
    cases c : (decide (o ≠ x) && decide (t x o ≠ 2)) with
    | true => rw [c] at this; simpa using this
    | false => rw [c] at this; simpa using this
  rw [List.filter_congr hf, ← List.length_append]
  exact (List.filter_append_perm _ _).length_eq
theorem any_eqD (l : List Int) (x : Int) : ((l.map D.int).any fun d => eqD d (.int x)) = decide (x ∈ l) := by
  rw [Bool.eq_iff_iff, List.any_eq_true, decide_eq_true_iff]
  constructor
  · rintro ⟨d, hd, e⟩
    obtain ⟨y, hy, rfl⟩ := List.mem_map.mp hd
    have : y = x := by simpa [eqD] using e
    exact this ▸ hy
  · intro h
    exact ⟨.int x, List.mem_map_of_mem h, eqD_refl _⟩
theorem depL_ints (l : List Int) : depL (l.map D.int) ≤ 100 := depL_le fun d hd => by
  obtain ⟨x, _, rfl⟩ := List.mem_map.mp hd
  exact Nat.zero_le _
theorem in_ints (b : Bool) (l : List Int) (x : Int) : inD b (.int x) (lD l) = some (.bl (xor b (decide (x ∈ l)))) := by
  show (if depL (l.map D.int) ≤ 100 then some (D.bl (xor b ((l.map D.int).any fun d => eqD d (.int x)))) else none) = _
  rw [if_pos (depL_ints l), any_eqD]
theorem left_val (near left : List Int) (hl : left.length ≤ 100) (s : Slot) : (if (left.map D.int).length ≤ sizeLine then compGo (nameG 0) (blF (bind2 (inD true) (vF 0) (vF 1))) (vF 0) (left.map D.int) [s, .fr (lD near)] else none) = some ((left.filter fun o => decide (o ∉ near)).map D.int) := by
  rw [if_pos (by rw [List.length_map]; exact szl hl)]
  exact comp1G (C := [.fr (lD near)]) (ι := D.int) (q := fun o => decide (o ∉ near)) (φ := D.int) left s (fun o _ => by
    by_cases c : o ∈ near <;> simp [in_ints, c]) (fun o _ _ => rfl)
abbrev pC : FT := blF (bind2 ltD (vF 4) (appF lenD (consA (vR 2) nilA)))
noncomputable abbrev pB : FS := seqF (asgF 5 (appF g_neighbours (consA (vF 0) (consA (bind2 ixD (vR 2) (vF 4)) (consA (vF 3) nilA))))) (seqF (extendF 2 (vF 5)) (seqF (asgF 3 (mapLst (compF 1 [5] (seqItems (vF 3)) (nameG 0) (blF (bind2 (inD true) (vF 0) (vF 1))) (vF 0)))) (augF 4 (fun i j => i + j) (cF (.int 1)))))
theorem part_step (n : Nat) (ts : List T3) (x : Int) (part left : List Int) (p : Nat) (s5 : Slot) (y : Int) (h : part[p]? = some y) (hz : part.length + left.length ≤ 50) :
    pB [.fr (houseD n ts), .fr (.int x), .ol (part.map D.int), .fr (lD left), .fr (.int p), s5] = some (.nx [.fr (houseD n ts), .fr (.int x), .ol ((part ++ nbM (turnM ts) y left).map D.int), .fr (lD (left.filter fun o => decide (o ∉ nbM (turnM ts) y left))), .fr (.int ((p + 1 : Nat) : Int)), .fr (lD (nbM (turnM ts) y left))]) := by
  have h1 : ixD (.lst (part.map D.int)) (.int (p : Int)) = some (.int y) := atI_nat (by rw [List.getElem?_map, h]; rfl)
  have h2 := nb_val n ts y left (by omega)
  have h3 := left_val (nbM (turnM ts) y left) left (by omega) .no
  have hs := nb_split (turnM ts) y left
  have h4 : (part.map D.int).length + ((nbM (turnM ts) y left).map D.int).length ≤ sizeLine := by rw [List.length_map, List.length_map]; exact szl (by omega)
  simp only [pB, s_seqF, s_asgF, s_appF, s_consA, s_nilA, s_vF, s_vR, s_bind2, List.getElem?_cons_zero, List.getElem?_cons_succ, Option.bind_some, h1, h2, List.set_cons_succ, List.set_cons_zero, s_extendF, if_pos h4, s_mapLst, s_compF, s_seqItems, s_seqL, s_compS, List.map_cons, List.map_nil, s_capS, List.replicate, List.cons_append, List.nil_append, h3, Option.map_some, augF, s_cF, List.map_append]
  rfl
theorem part_loop (n : Nat) (ts : List T3) (x : Int) : ∀ (k N : Nat) (part left : List Int) (p : Nat) (s5 : Slot), part.length + left.length ≤ k + p → k < N → part.length + left.length ≤ 50 →
    ∃ s3 s4 s5', whileF pC pB N [.fr (houseD n ts), .fr (.int x), .ol (part.map D.int), .fr (lD left), .fr (.int p), s5] = some (.nx [.fr (houseD n ts), .fr (.int x), .ol ((bfsM (turnM ts) k part left p).map D.int), s3, s4, s5'])
  | k, 0, part, left, p, s5, h1, h2, h3 => by omega
  | k, N + 1, part, left, p, s5, h1, h2, h3 => by
    have hc : pC [.fr (houseD n ts), .fr (.int x), .ol (part.map D.int), .fr (lD left), .fr (.int p), s5] = some (decide ((p : Int) < (part.length : Int))) := by
      simp only [pC, s_blF, s_bind2, s_vF, s_appF, s_consA, s_nilA, s_vR, List.getElem?_cons_zero, List.getElem?_cons_succ, Option.bind_some, s_lenL, s_lt, List.length_map]
    have stop : part.length ≤ p → whileF pC pB (N + 1) [.fr (houseD n ts), .fr (.int x), .ol (part.map D.int), .fr (lD left), .fr (.int p), s5] = some (.nx [.fr (houseD n ts), .fr (.int x), .ol (part.map D.int), .fr (lD left), .fr (.int p), s5]) := fun hp => by
      unfold whileF
      rw [hc, decide_eq_false (by omega)]
      rfl
    match k with
    | 0 => exact ⟨_, _, _, stop (by omega)⟩
    | k + 1 =>
      cases e : part[p]? with
      | none =>
        have := List.getElem?_eq_none_iff.mp e
        unfold bfsM
        rw [e]
        exact ⟨_, _, _, stop this⟩
      | some y =>
        have hp : p < part.length := (List.getElem?_eq_some_iff.mp e).1
        have hs := nb_split (turnM ts) y left
        obtain ⟨s3, s4, s5', ih⟩ := part_loop n ts x k N (part ++ nbM (turnM ts) y left) (left.filter fun o => decide (o ∉ nbM (turnM ts) y left)) (p + 1) (.fr (lD (nbM (turnM ts) y left))) (by rw [List.length_append]; omega) (by omega) (by rw [List.length_append]; omega)
        refine ⟨s3, s4, s5', ?_⟩
        unfold bfsM whileF
        rw [hc, decide_eq_true (by omega), e]
        show (pB _).bind _ = _
        rw [part_step n ts x part left p s5 y e h3]
        exact ih
theorem range_idx (n : Nat) : rangeD 0 (n : Int) = (idx n).map D.int := by
  unfold rangeD idx
  rw [List.map_map, show ((n : Int) - 0).toNat = n by omega]
  exact List.map_congr_left fun k _ => by simp
theorem len_idx (n : Nat) : (idx n).length = n := by simp [idx]
theorem bfs_len (t : Int → Int → Int) : ∀ (k : Nat) (part left : List Int) (p : Nat), (bfsM t k part left p).length ≤ part.length + left.length
  | 0, part, left, p => by unfold bfsM; omega
  | k + 1, part, left, p => by
    unfold bfsM
    split
    · omega
    · rename_i x _
      have := bfs_len t k (part ++ nbM t x left) (left.filter fun o => decide (o ∉ nbM t x left)) (p + 1)
      have hs := nb_split t x left
      rw [List.length_append] at this
      omega
theorem wo_len {n : Nat} {x : Int} (hx : x ∈ idx n) : (woM (idx n) x).length + 1 = n := by
  have h := (nodup_idx n)
  have : (([x] : List Int) ++ woM (idx n) x).Perm (idx n) := by
    refine perm_of_mem ?_ h fun y => ?_
    · rw [List.singleton_append, List.nodup_cons]
      refine ⟨fun z => ?_, h.filter _⟩
      unfold woM at z
      simpa using (List.mem_filter.mp z).2
    · rw [List.singleton_append, List.mem_cons]
      unfold woM
      rw [List.mem_filter]
      constructor
      · rintro (rfl | z)
        · exact hx
        · exact z.1
      · intro z
        by_cases c : y = x
        · exact .inl c
        · exact .inr ⟨z, decide_eq_true c⟩
  have := this.length_eq
  rw [List.length_append, len_idx, List.length_singleton] at this
  omega
theorem sort_val {fa : FA} {ρ : Rho} {l : List Int} (h : fa ρ = some [lD l]) (hl : l.length < 64) : sortN fa ρ = some ((sortI l).map D.int) := by
  rw [s_sortN, h]
  show (intsOf (l.map D.int)).bind _ = _
  rw [intsOf_map, Option.bind_some, if_pos hl]
theorem part_val (n : Nat) (ts : List T3) (x : Int) (hn : n ≤ 40) (hx : x ∈ idx n) : g_part_of [houseD n ts, .int x] = some (lD (sortI (partM (turnM ts) n x))) := by
  have hw := wo_len hx
  obtain ⟨s3, s4, s5, h⟩ := part_loop n ts x n 100000 [x] (woM (idx n) x) 0 .no (by simp; omega) (by omega) (by simp; omega)
  have h0 : ixD (houseD n ts) (.int 0) = some (.int n) := by unfold houseD; exact ix0
  have h1 : (if -(2 ^ 62) ≤ (n : Int) ∧ (n : Int) ≤ 1000000 then some (rangeD 0 (n : Int)) else none) = some ((idx n).map D.int) := by rw [if_pos (by omega), range_idx]
  have h2 := wo_val (idx n) x (by rw [len_idx]; omega)
  have hb := bfs_len (turnM ts) n [x] (woM (idx n) x) 0
  have h3 := sort_val (fa := consA (vR 2) nilA) (ρ := [.fr (houseD n ts), .fr (.int x), .ol ((bfsM (turnM ts) n [x] (woM (idx n) x) 0).map D.int), s3, s4, s5]) (l := bfsM (turnM ts) n [x] (woM (idx n) x) 0) rfl (by simp at hb; omega)
  have hz : 1 ≤ sizeLine := szl (by omega)
  simp only [g_part_of, F_part_of, s_denF, s_startR, List.map_cons, List.map_nil, List.length_cons, List.length_nil, Nat.reduceAdd, Nat.reduceSub, List.replicate, List.cons_append, List.nil_append, s_seqF, s_asgN, s_lstF, s_consA, s_nilA, s_vF, List.getElem?_cons_zero, List.getElem?_cons_succ, Option.bind_some, if_pos hz, List.set_cons_succ, List.set_cons_zero, s_asgF, s_appF, s_mapLst, rngN1, s_bind2, s_cF, h0, h1, h2, Option.map_some]
  have h : whileF pC pB 100000 [.fr (houseD n ts), .fr (.int x), .ol [.int x], .fr (lD (woM (idx n) x)), .fr (.int 0), .no] = _ := h
  rw [h]
  simp only [Option.bind_some, s_retF, s_mapLst, h3, Option.map_some, s_outR]
  rfl
abbrev cC : FT := blF (bind2 gtD (appF lenD (consA (vF 4) nilA)) (cF (.int 0)))
noncomputable abbrev cB : FS := seqF (asgF 5 (appF g_neighbours (consA (vF 0) (consA (bind2 ixD (vR 3) (bind1 negD (cF (.int 1)))) (consA (vF 4) nilA))))) (seqF (ifS (blF (bind2 neF (appF lenD (consA (vF 5) nilA)) (cF (.int 1)))) (retF (cF .non)) nxF) (seqF (appendF 3 (bind2 ixD (vF 5) (cF (.int 0)))) (asgF 4 (appF g_without (consA (vF 4) (consA (bind2 ixD (vF 5) (cF (.int 0))) nilA))))))
theorem at_last (pre : List Int) (x : Int) : ixD (.lst ((pre ++ [x]).map D.int)) (.int (-1)) = some (.int x) := by
  have e : ixD (.lst ((pre ++ [x]).map D.int)) (.int (-1)) = atI ((pre ++ [x]).map D.int) (-1) := rfl
  rw [e]
  unfold atI ixN
  simp
  rw [if_pos (by omega)]
  have e2 : (-1 + ((pre.length : Int) + 1)).toNat = pre.length := by omega
  rw [Option.bind_some, e2]
  simp
theorem wo_less {l : List Int} {y : Int} (h : y ∈ l) : (woM l y).length < l.length := by
  unfold woM
  have := List.length_filter_lt_length_iff_exists (p := fun o => decide (o ≠ y)) (l := l)
  exact this.mpr ⟨y, h, by simp⟩
def outC : Option (List Int) → Option D
  | some o => some (lD o)
  | none => some .non
theorem chain_loop (n : Nat) (ts : List T3) (ms : D) (f : D) : ∀ (k N : Nat) (pre : List Int) (x : Int) (left : List Int) (s5 : Slot), left.length ≤ k → k < N → pre.length + left.length ≤ 50 →
    (∃ s4 s5', ∃ o, chG (turnM ts) k x left = some o ∧ whileF cC cB N [.fr (houseD n ts), .fr ms, .fr f, .ol ((pre ++ [x]).map D.int), .fr (lD left), s5] = some (.nx [.fr (houseD n ts), .fr ms, .fr f, .ol ((pre ++ x :: o).map D.int), s4, s5'])) ∨
    (chG (turnM ts) k x left = none ∧ whileF cC cB N [.fr (houseD n ts), .fr ms, .fr f, .ol ((pre ++ [x]).map D.int), .fr (lD left), s5] = some (.rt .non))
  | k, 0, pre, x, left, s5, h1, h2, h3 => by omega
  | k, N + 1, pre, x, left, s5, h1, h2, h3 => by
    have hc : cC [.fr (houseD n ts), .fr ms, .fr f, .ol ((pre ++ [x]).map D.int), .fr (lD left), s5] = some (decide ((0 : Int) < (left.length : Int))) := by
      simp only [cC, s_blF, s_bind2, s_vF, s_appF, s_consA, s_nilA, List.getElem?_cons_zero, List.getElem?_cons_succ, Option.bind_some, s_lenL, s_gt, List.length_map, s_cF]
    by_cases e : left = []
    · subst e
      refine .inl ⟨.fr (lD []), s5, [], by cases k <;> rfl, ?_⟩
      unfold whileF
      rw [hc]
      rfl
    · have hpos : 0 < left.length := List.length_pos_iff.mpr e
      match k with
      | 0 => omega
      | k + 1 =>
        have hn := nb_val n ts x left (by omega)
        have hl := at_last pre x
        have a1 : asgF 5 (appF g_neighbours (consA (vF 0) (consA (bind2 ixD (vR 3) (bind1 negD (cF (.int 1)))) (consA (vF 4) nilA)))) [.fr (houseD n ts), .fr ms, .fr f, .ol ((pre ++ [x]).map D.int), .fr (lD left), s5] = some (.nx [.fr (houseD n ts), .fr ms, .fr f, .ol ((pre ++ [x]).map D.int), .fr (lD left), .fr (lD (nbM (turnM ts) x left))]) := by
          simp only [s_asgF, s_appF, s_consA, s_nilA, s_vF, s_vR, s_bind2, s_bind1, s_cF, s_neg, List.getElem?_cons_zero, List.getElem?_cons_succ, Option.bind_some, hl, hn, List.set_cons_succ, List.set_cons_zero]
        have a2 : ∀ l : List Int, blF (bind2 neF (appF lenD (consA (vF 5) nilA)) (cF (.int 1))) [.fr (houseD n ts), .fr ms, .fr f, .ol ((pre ++ [x]).map D.int), .fr (lD left), .fr (lD l)] = some (!decide ((l.length : Int) = 1)) := fun l => by
          simp only [s_blF, s_bind2, s_appF, s_consA, s_nilA, s_vF, s_cF, List.getElem?_cons_zero, List.getElem?_cons_succ, Option.bind_some, s_lenL, List.length_map, s_nei]
        have bad : (nbM (turnM ts) x left).length ≠ 1 → whileF cC cB (N + 1) [.fr (houseD n ts), .fr ms, .fr f, .ol ((pre ++ [x]).map D.int), .fr (lD left), s5] = some (.rt .non) := fun hb => by
          unfold whileF
          rw [hc, decide_eq_true (by omega)]
          show (cB _).bind _ = _
          unfold cB
          rw [s_seqF, a1]
          show (seqF _ _ _).bind _ = _
          rw [s_seqF, s_ifS, a2, decide_eq_false (by omega)]
          rfl
        unfold chG
        rw [if_neg e]
        cases h : nbM (turnM ts) x left with
        | nil => exact .inr ⟨rfl, bad (by rw [h]; simp)⟩
        | cons y r =>
          cases r with
          | cons z r => exact .inr ⟨rfl, bad (by rw [h]; simp)⟩
          | nil =>
            have hy : y ∈ left := nbM_sub (t := turnM ts) (x := x) (by rw [h]; exact List.mem_cons_self)
            have hw := wo_val left y (by omega)
            have hwl := wo_less hy
            have hz : ((pre ++ [x]).map D.int).length < sizeLine := by
              rw [List.length_map, List.length_append, List.length_singleton]; exact small1000 (by omega)
            have y0 : ixD (lD [y]) (.int 0) = some (.int y) := by simp [ixD, atI, ixN]
            have st : cB [.fr (houseD n ts), .fr ms, .fr f, .ol ((pre ++ [x]).map D.int), .fr (lD left), s5] = some (.nx [.fr (houseD n ts), .fr ms, .fr f, .ol (((pre ++ [x]) ++ [y]).map D.int), .fr (lD (woM left y)), .fr (lD [y])]) := by
              unfold cB
              rw [s_seqF, a1, h, Option.bind_some]
              dsimp only
              rw [s_seqF, s_ifS, a2]
              simp only [List.length_singleton, decide_true, Bool.not_true, Option.bind_some, Bool.false_eq_true, if_false, s_nxF, s_seqF, s_appendF, s_bind2, s_vF, s_cF, List.getElem?_cons_zero, List.getElem?_cons_succ, y0, if_pos hz, List.set_cons_succ, List.set_cons_zero, s_asgF, s_appF, s_consA, s_nilA, hw, Int.ofNat_one]
              rw [List.map_append (l₁ := pre ++ [x])]
              rfl
            have wh : ∀ R, whileF cC cB N [.fr (houseD n ts), .fr ms, .fr f, .ol (((pre ++ [x]) ++ [y]).map D.int), .fr (lD (woM left y)), .fr (lD [y])] = R → whileF cC cB (N + 1) [.fr (houseD n ts), .fr ms, .fr f, .ol ((pre ++ [x]).map D.int), .fr (lD left), s5] = R := fun R hR => by
              unfold whileF
              rw [hc, decide_eq_true (by omega)]
              show (cB _).bind _ = _
              rw [st]
              exact hR
            rcases chain_loop n ts ms f k N (pre ++ [x]) y (woM left y) (.fr (lD [y])) (by omega) (by omega) (by rw [List.length_append, List.length_singleton]; omega) with ⟨s4, s5', o, e1, e2⟩ | ⟨e1, e2⟩
            · refine .inl ⟨s4, s5', y :: o, by show Option.map (y :: ·) (chG (turnM ts) k y (woM left y)) = _; rw [e1]; rfl, wh _ ?_⟩
              rw [e2]
              simp
            · exact .inr ⟨by show Option.map (y :: ·) (chG (turnM ts) k y (woM left y)) = _; rw [e1]; rfl, wh _ e2⟩
theorem chain_val (n : Nat) (ts : List T3) (ms : List Int) (f : Int) (hm : ms.length ≤ 40) : g_chain_from [houseD n ts, lD ms, .int f] = outC (chainM (turnM ts) ms f) := by
  have hw := wo_val ms f (by omega)
  have hl : (woM ms f).length ≤ ms.length := List.length_filter_le _ _
  have hz : 1 ≤ sizeLine := szl (by omega)
  have pre : g_chain_from [houseD n ts, lD ms, .int f] = outD ((whileF cC cB 100000 [.fr (houseD n ts), .fr (lD ms), .fr (.int f), .ol (([] ++ [f]).map D.int), .fr (lD (woM ms f)), .no]).bind fun o => match o with | .nx ρ' => frzF 3 (retF (vF 3)) ρ' | o => some o) := by
    simp only [g_chain_from, F_chain_from, s_denF, s_startR, List.map_cons, List.map_nil, List.length_cons, List.length_nil, Nat.reduceAdd, Nat.reduceSub, List.replicate, List.cons_append, List.nil_append, s_seqF, s_asgN, s_lstF, s_consA, s_nilA, s_vF, List.getElem?_cons_zero, List.getElem?_cons_succ, Option.bind_some, if_pos hz, List.set_cons_succ, List.set_cons_zero, s_asgF, s_appF, hw]
    try rfl
  rw [pre]
  unfold chainM
  rcases chain_loop n ts (lD ms) (.int f) ms.length 100000 [] f (woM ms f) .no hl (by omega) (by simp; omega) with ⟨s4, s5, o, e1, e2⟩ | ⟨e1, e2⟩
  · rw [e1, e2]
    rfl
  · rw [e1, e2]
    rfl
theorem filter_some : ∀ (l : List (Option (List Int))), (l.filter (·.isSome)).map (fun o => (outC o).getD .non) = (l.filterMap id).map lD
  | [] => rfl
  | none :: l => by
    rw [List.filter_cons_of_neg (by simp), List.filterMap_cons_none rfl]
    exact filter_some l
  | some o :: l => by
    rw [List.filter_cons_of_pos rfl, List.map_cons, filter_some l]
    rfl
theorem chains_val (n : Nat) (ts : List T3) (ms : List Int) (hm : ms.length ≤ 40) : g_chains [houseD n ts, lD ms] = some (.lst ((chainsM (turnM ts) ms).map lD)) := by
  have e1 := comp1M (f := appF g_chain_from (consA (vF 1) (consA (vF 2) (consA (vF 0) nilA)))) (C := [.fr (houseD n ts), .fr (lD ms)]) (ι := D.int) (φ := fun f => (outC (chainM (turnM ts) ms f)).getD .non) ms .no (fun f _ => by
    have := chain_val n ts ms f hm
    simp only [s_appF, s_consA, s_nilA, s_vF, List.getElem?_cons_zero, List.getElem?_cons_succ, Option.bind_some, this]
    cases chainM (turnM ts) ms f <;> rfl)
  have e2 := comp1G (ft := blF (bind2 (isD true) (vF 0) (cF .non))) (f := vF 0) (C := []) (ι := fun o => (outC o).getD .non) (q := fun o => o.isSome) (φ := fun o => (outC o).getD .non) (ms.map (chainM (turnM ts) ms)) .no (fun o _ => by
    cases o <;> rfl) (fun o _ _ => rfl)
  rw [filter_some, List.map_map, List.filterMap_map] at e2
  have hz : (ms.map D.int).length ≤ sizeLine := by rw [List.length_map]; exact szl (by omega)
  have hz2 : (ms.map ((fun o => (outC o).getD D.non) ∘ chainM (turnM ts) ms)).length ≤ sizeLine := by rw [List.length_map]; exact szl (by omega)
  have e1 : _ = some (ms.map ((fun o => (outC o).getD D.non) ∘ chainM (turnM ts) ms)) := e1
  simp only [g_chains, F_chains, s_denF, s_startR, List.map_cons, List.map_nil, List.length_cons, List.length_nil, Nat.reduceAdd, Nat.reduceSub, List.replicate, List.cons_append, List.nil_append, s_seqF, s_asgF, s_mapLst, s_compF, s_seqItems, s_vF, List.getElem?_cons_zero, List.getElem?_cons_succ, Option.bind_some, s_seqL, if_pos hz, s_compS, s_capS, e1, Option.map_some, List.set_cons_succ, List.set_cons_zero, s_retF, if_pos hz2, e2, s_outR]
  rfl
theorem zip_along (t : Int → Int → Int) (o : List Int) : (List.zip o (o.drop 1)).map (fun p => t p.1 p.2) = alongM t o := by
  unfold alongM
  rw [List.zip, List.map_zipWith]
theorem cut1 (l : List D) : cutL l (some 1) none = l.drop 1 := by
  unfold cutL HT.sIx
  simp
  cases l with
  | nil => rfl
  | cons a l => simp
theorem along_val (n : Nat) (ts : List T3) (o : List Int) (ho : o.length ≤ 40) : g_turns_along [houseD n ts, lD o] = some (lD (alongM (turnM ts) o)) := by
  have e1 := comp2G (ft := ttF) (f := appF g_turn_of (consA (vF 2) (consA (vF 0) (consA (vF 1) nilA)))) (C := [.fr (houseD n ts)]) (ι := fun p : Int × Int => .int p.1) (κ := fun p : Int × Int => .int p.2) (q := fun _ => true) (φ := fun p => .int (turnM ts p.1 p.2)) (List.zip o (o.drop 1)) .no .no (fun _ _ => rfl) (fun p _ _ => by
    simp only [s_appF, s_consA, s_nilA, s_vF, List.getElem?_cons_zero, List.getElem?_cons_succ, Option.bind_some, turn_val])
  rw [List.filter_eq_self.mpr (fun _ _ => rfl)] at e1
  have ez : zipD (o.map D.int) ((o.map D.int).drop 1) = (List.zip o (o.drop 1)).map fun p : Int × Int => .tup [.int p.1, .int p.2] := by
    unfold zipD
    rw [← List.map_drop, List.zip_map, List.map_map]
    rfl
  have hz : (zipD (o.map D.int) ((o.map D.int).drop 1)).length ≤ sizeLine := by
    rw [ez, List.length_map, List.length_zip]
    exact szl (by omega)
  simp only [g_turns_along, F_turns_along, s_denF, s_startR, List.map_cons, List.map_nil, List.length_cons, List.length_nil, Nat.reduceAdd, Nat.reduceSub, List.replicate, List.append_nil, List.cons_append, List.nil_append, s_retF, s_mapLst, s_compF, s_itemsZ, s_seqItems, s_vF, s_sliceF, s_exP, s_noP, s_cF, List.getElem?_cons_zero, List.getElem?_cons_succ, Option.bind_some, s_seqL, cut1, if_pos hz, s_compS, s_capS]
  rw [ez, e1]
  simp only [Option.map_some, Option.bind_some, s_outR]
  rw [← zip_along]
  show _ = some (D.lst ((List.map _ _).map D.int))
  rw [List.map_map]
  rfl
def letK : Nat → Str
  | 1 => "a" | 2 => "b" | 4 => "d" | 5 => "e" | 6 => "f" | 8 => "h" | 9 => "i" | _ => "-"
def kT (k : Kd) : Str := if k.1 = 0 then "-" else jn Str.empty [letK k.1, toString (k.2 : Int)]
abbrev kD (k : Kd) : D := .str (kT k)
theorem kt_f4 : kT (6, 4) = "f4" := by decide +kernel
theorem kt_h3 : kT (8, 3) = "h3" := by decide +kernel
theorem kt_h4 : kT (8, 4) = "h4" := by decide +kernel
theorem kt_i5 : kT (9, 5) = "i5" := by decide +kernel
theorem kt_i6 : kT (9, 6) = "i6" := by decide +kernel
theorem kt_e6 : kT (5, 6) = "e6" := by decide +kernel
theorem jn_small : (List.range 50).all (fun n => decide ((jn Str.empty ["a", toString (n : Int)]).length ≤ 100) && decide ((jn Str.empty ["b", toString (n : Int)]).length ≤ 100) && decide ((jn Str.empty ["d", toString (n : Int)]).length ≤ 100)) = true := by decide +kernel
theorem jn_of {n : Nat} (h : n < 50) : (jn Str.empty ["a", toString (n : Int)]).length ≤ 100 ∧ (jn Str.empty ["b", toString (n : Int)]).length ≤ 100 ∧ (jn Str.empty ["d", toString (n : Int)]).length ≤ 100 := by
  have := List.all_eq_true.mp jn_small n (List.mem_range.mpr h)
  rw [Bool.and_eq_true, Bool.and_eq_true] at this
  exact ⟨of_decide_eq_true this.1.1, of_decide_eq_true this.1.2, of_decide_eq_true this.2⟩
theorem join_val {c : Str} {f : FE} {ρ : Rho} {n : Nat} (h : f ρ = some (.int n)) (hn : n < 50) (hl : (jn Str.empty [c, toString (n : Int)]).length ≤ 100) : joinF (conJ c (fmtJ f nilJ)) ρ = some (.str (jn Str.empty [c, toString (n : Int)])) := by
  have hg : ((n : Int).natAbs).log2 < 1920 := Nat.lt_of_le_of_lt (Nat.log2_le_self _) (by omega)
  unfold joinF conJ fmtJ nilJ
  rw [h]
  show ((((if ((n : Int).natAbs).log2 < 1920 then some (toString (n : Int)) else none : Option Str).bind fun z => some [z]).bind (fun zs => some (c :: zs))).bind _) = _
  rw [if_pos hg]
  show (if (jn Str.empty [c, toString (n : Int)]).length ≤ sizeLine then _ else none) = _
  rw [if_pos (szl hl)]
theorem eqL_ints : ∀ a b : List Int, eqDL (a.map D.int) (b.map D.int) = decide (a = b)
  | [], [] => rfl
  | [], _ :: _ => rfl
  | _ :: _, [] => rfl
  | x :: a, y :: b => by
    rw [List.map_cons, List.map_cons]
    unfold eqDL
    rw [eqL_ints a b]
    by_cases c : x = y <;> by_cases c' : a = b <;> simp [eqD, c, c']
theorem dep_ints (l : List Int) : dep (lD l) ≤ 100 := by
  have := dep_hl l
  show dep (.lst (l.map D.int)) ≤ 100
  omega
theorem eqF_ints (a b : List Int) : eqF (lD a) (lD b) = some (.bl (decide (a = b))) := by
  unfold eqF
  rw [if_pos (dep_ints a)]
  show some (D.bl (eqDL (a.map D.int) (b.map D.int))) = _
  rw [eqL_ints]
theorem mul3_val {f : FE} {ρ : Rho} {k : Int} (h : f ρ = some (.int k)) (h1 : -100 ≤ k) (h2 : k ≤ 100) : mulZ (mapLst (lstF (consA (cF (.int 3)) nilA))) f ρ = some ((List.replicate k.toNat (3 : Int)).map D.int) := by
  have hz : 1 ≤ sizeLine := szl (by omega)
  simp only [s_mulZ, s_mapLst, s_lstF, s_consA, s_cF, s_nilA, Option.bind_some, List.length_cons, List.length_nil, Nat.zero_add, if_pos hz, Option.map_some, h]
  rw [if_pos (by omega), List.map_replicate]
  congr 1
  generalize k.toNat = m
  induction m with
  | zero => rfl
  | succ m ih => rw [List.replicate_succ, List.flatten_cons, ih]; rfl
theorem kch_val (l : List Int) (hl : l.length ≤ 40) : g_kind_of_chain [lD l] = some (kD (kchM l)) := by
  obtain ⟨ja, jb, _⟩ := jn_of (n := l.length + 1) (by omega)
  have hz : 1 ≤ sizeLine := szl (by omega)
  have m1 := mul3_val (f := bind2 subD (vF 1) (cF (.int 1))) (ρ := [.fr (lD l), .fr (.int ((l.length : Int) + 1))]) (k := (l.length : Int)) (by simp) (by omega) (by omega)
  have m2 := mul3_val (f := bind2 subD (vF 1) (cF (.int 2))) (ρ := [.fr (lD l), .fr (.int ((l.length : Int) + 1))]) (k := (l.length : Int) - 1) (by simp; omega) (by omega) (by omega)
  have t1 : ((l.length : Int)).toNat = l.length := by omega
  have t2 : ((l.length : Int) - 1).toNat = l.length - 1 := by omega
  rw [t1] at m1
  rw [t2] at m2
  have j1 := join_val (c := "a") (f := vF 1) (ρ := [.fr (lD l), .fr (.int ((l.length : Int) + 1))]) (n := l.length + 1) rfl (by omega) ja
  have j2 := join_val (c := "b") (f := vF 1) (ρ := [.fr (lD l), .fr (.int ((l.length : Int) + 1))]) (n := l.length + 1) rfl (by omega) jb
  have q1 := eqF_ints l (List.replicate l.length 3)
  have q2 := eqF_ints l (List.replicate (l.length - 1) 3 ++ [4])
  have ad : addX (.lst ((List.replicate (l.length - 1) (3 : Int)).map D.int)) (.lst [.int 4]) = some (lD (List.replicate (l.length - 1) 3 ++ [4])) := by
    unfold addX
    dsimp only
    rw [if_pos (by simp; exact szl (by omega))]
    simp
  have gt : getT [([3, 4, 3], (.str "f4")), ([3, 5], (.str "h3")), ([3, 3, 5], (.str "h4")), ([5], (.str "i5")), ([6], (.str "i6"))] (.tup (l.map D.int)) (.str "-") = some ((List.lookup l [([3, 4, 3], (D.str "f4")), ([3, 5], (.str "h3")), ([3, 3, 5], (.str "h4")), ([5], (.str "i5")), ([6], (.str "i6"))]).getD (.str "-")) := by
    unfold getT
    dsimp only
    rw [intsOf_map]
    rfl
  have start : g_kind_of_chain [lD l] = outD (seqF (ifS (blF (bind2 eqF (vF 0) (mapLst (mulZ (mapLst (lstF (consA (cF (.int 3)) nilA))) (bind2 subD (vF 1) (cF (.int 1))))))) (retF (joinF (conJ "a" (fmtJ (vF 1) nilJ)))) nxF) (seqF (ifS (blF (bind2 eqF (vF 0) (bind2 addX (mapLst (mulZ (mapLst (lstF (consA (cF (.int 3)) nilA))) (bind2 subD (vF 1) (cF (.int 2))))) (mapLst (lstF (consA (cF (.int 4)) nilA)))))) (retF (joinF (conJ "b" (fmtJ (vF 1) nilJ)))) nxF) (retF (bind2 (getT [([3, 4, 3], (.str "f4")), ([3, 5], (.str "h3")), ([3, 3, 5], (.str "h4")), ([5], (.str "i5")), ([6], (.str "i6"))]) (appF tupleD (consA (vF 0) nilA)) (cF (.str "-"))))) [.fr (lD l), .fr (.int ((l.length : Int) + 1))]) := by
    simp [g_kind_of_chain, F_kind_of_chain, List.replicate]
  rw [start, s_seqF, s_ifS, s_blF, s_bind2, s_mapLst, m1]
  simp only [s_vF, List.getElem?_cons_zero, Option.bind_some, Option.map_some, q1]
  unfold kchM
  by_cases c1 : l = List.replicate l.length 3
  · rw [if_pos c1, if_pos (decide_eq_true c1), s_retF, j1]
    rfl
  · rw [if_neg c1, if_neg (by simpa using c1)]
    simp only [s_nxF, Option.bind_some]
    rw [s_seqF, s_ifS, s_blF, s_bind2, s_bind2, s_mapLst, m2]
    simp only [s_vF, List.getElem?_cons_zero, Option.bind_some, Option.map_some, s_mapLst, s_lstF, s_consA, s_cF, s_nilA, List.length_cons, List.length_nil, Nat.zero_add, if_pos hz, ad, q2]
    by_cases c2 : l = List.replicate (l.length - 1) 3 ++ [4]
    · rw [if_pos c2, if_pos (decide_eq_true c2), s_retF, j2]
      rfl
    · rw [if_neg c2, if_neg (by simpa using c2)]
      simp only [s_nxF, Option.bind_some, s_retF, s_bind2, s_appF, s_consA, s_nilA, s_vF, List.getElem?_cons_zero, s_tuL, s_cF, gt, s_outR]
      by_cases d1 : l = [3, 4, 3]
      · subst d1; rw [if_pos rfl]; show _ = some (D.str (kT (6, 4))); rw [kt_f4]; rfl
      · rw [if_neg d1]
        by_cases d2 : l = [3, 5]
        · subst d2; rw [if_pos rfl]; show _ = some (D.str (kT (8, 3))); rw [kt_h3]; rfl
        · rw [if_neg d2]
          by_cases d3 : l = [3, 3, 5]
          · subst d3; rw [if_pos rfl]; show _ = some (D.str (kT (8, 4))); rw [kt_h4]; rfl
          · rw [if_neg d3]
            by_cases d4 : l = [5]
            · subst d4; rw [if_pos rfl]; show _ = some (D.str (kT (9, 5))); rw [kt_i5]; rfl
            · rw [if_neg d4]
              by_cases d5 : l = [6]
              · subst d5; rw [if_pos rfl]; show _ = some (D.str (kT (9, 6))); rw [kt_i6]; rfl
              · rw [if_neg d5]
                have e : List.lookup l [([3, 4, 3], (D.str "f4")), ([3, 5], (.str "h3")), ([3, 3, 5], (.str "h4")), ([5], (.str "i5")), ([6], (.str "i6"))] = none := by
                  simp [List.lookup, beq_false_of_ne, d1, d2, d3, d4, d5]
                rw [e]
                rfl
theorem at_i (o : List Int) (i : Nat) (y : Int) (h : o[i]? = some y) : ixD (lD o) (.int (i : Int)) = some (.int y) := atI_nat (by rw [List.getElem?_map, h]; rfl)
theorem kbes_val (o : List Int) (y : Int) (hl : o.length ≤ 40) : g_kind_with_one_beside [lD o, .int y] = some (kD (kbesM o y)) := by
  obtain ⟨_, _, jd⟩ := jn_of (n := o.length + 1) (by omega)
  have j1 := join_val (c := "d") (f := vF 2) (ρ := [.fr (lD o), .fr (.int y), .fr (.int ((o.length : Int) + 1))]) (n := o.length + 1) rfl (by omega) jd
  have start : g_kind_with_one_beside [lD o, .int y] = outD (seqF (ifS (andT (blF (bind2 geD (vF 2) (cF (.int 4)))) (blF (bind2 eqF (bind2 ixD (vF 0) (cF (.int 1))) (vF 1)))) (retF (joinF (conJ "d" (fmtJ (vF 2) nilJ)))) nxF) (seqF (ifS (andT (blF (bind2 eqF (vF 2) (cF (.int 6)))) (blF (bind2 eqF (bind2 ixD (vF 0) (cF (.int 2))) (vF 1)))) (retF (cF (.str "e6"))) nxF) (retF (cF (.str "-")))) [.fr (lD o), .fr (.int y), .fr (.int ((o.length : Int) + 1))]) := by
    simp [g_kind_with_one_beside, F_kind_with_one_beside, List.replicate]
  have a1 : andT (blF (bind2 geD (vF 2) (cF (.int 4)))) (blF (bind2 eqF (bind2 ixD (vF 0) (cF (.int 1))) (vF 1))) [.fr (lD o), .fr (.int y), .fr (.int ((o.length : Int) + 1))] = some (decide (4 ≤ o.length + 1 ∧ o[1]? = some y)) := by
    by_cases c : 4 ≤ o.length + 1
    · have hx : o[1]? = some o[1] := List.getElem?_eq_getElem (by omega)
      have c' : (4 : Int) ≤ (o.length : Int) + 1 := by omega
      have := at_i o 1 o[1] hx
      have this : ixD (lD o) (.int 1) = some (.int o[1]) := this
      simp [c, c', this, hx]
    · have c' : ¬ (4 : Int) ≤ (o.length : Int) + 1 := by omega
      simp [c, c']
  have a2 : andT (blF (bind2 eqF (vF 2) (cF (.int 6)))) (blF (bind2 eqF (bind2 ixD (vF 0) (cF (.int 2))) (vF 1))) [.fr (lD o), .fr (.int y), .fr (.int ((o.length : Int) + 1))] = some (decide (o.length + 1 = 6 ∧ o[2]? = some y)) := by
    by_cases c : o.length + 1 = 6
    · have hx : o[2]? = some o[2] := List.getElem?_eq_getElem (by omega)
      have c' : (o.length : Int) + 1 = 6 := by omega
      have := at_i o 2 o[2] hx
      have this : ixD (lD o) (.int 2) = some (.int o[2]) := this
      simp [c, c', this, hx]
    · have c' : ¬ (o.length : Int) + 1 = 6 := by omega
      simp [c, c']
  rw [start, s_seqF, s_ifS, a1, Option.bind_some]
  unfold kbesM
  by_cases c1 : 4 ≤ o.length + 1 ∧ o[1]? = some y
  · rw [if_pos c1, if_pos (decide_eq_true c1), s_retF, j1]
    rfl
  · rw [if_neg c1, if_neg (by simpa using c1), s_nxF, Option.bind_some]
    dsimp only
    rw [s_seqF, s_ifS, a2, Option.bind_some]
    by_cases c2 : o.length + 1 = 6 ∧ o[2]? = some y
    · rw [if_pos c2, if_pos (decide_eq_true c2)]
      show _ = some (D.str (kT (5, 6)))
      rw [kt_e6]
      rfl
    · rw [if_neg c2, if_neg (by simpa using c2)]
      rfl
theorem chG_len {t : Int → Int → Int} : ∀ {n : Nat} {x : Int} {l o : List Int}, chG t n x l = some o → o.length ≤ n
  | 0, x, l, o, h => by cases h; exact Nat.le_refl _
  | n + 1, x, l, o, h => by
    unfold chG at h
    split at h
    · cases h; exact Nat.zero_le _
    · split at h
      · obtain ⟨o', e', rfl⟩ := Option.map_eq_some_iff.mp h
        have := chG_len e'
        rw [List.length_cons]
        omega
      · cases h
theorem chains_len {t : Int → Int → Int} {ms o : List Int} (h : o ∈ chainsM t ms) : o.length ≤ ms.length + 1 := by
  obtain ⟨f, _, e⟩ := List.mem_filterMap.mp h
  obtain ⟨o', e', rfl⟩ := Option.map_eq_some_iff.mp e
  have := chG_len e'
  rw [List.length_cons]
  omega
theorem chains_many (t : Int → Int → Int) (ms : List Int) : (chainsM t ms).length ≤ ms.length := List.length_filterMap_le _ _
theorem along_len (t : Int → Int → Int) (o : List Int) : (alongM t o).length ≤ o.length := by
  unfold alongM
  rw [List.length_zipWith]
  omega
theorem kcs_val (n : Nat) (ts : List T3) (ms : List Int) (hm : ms.length ≤ 9) : g_kinds_by_chains [houseD n ts, lD ms] = some (.lst ((kcsM (turnM ts) ms).map kD)) := by
  have e0 := chains_val n ts ms (by omega)
  have e1 := comp1M (f := appF g_kind_of_chain (consA (appF g_turns_along (consA (vF 1) (consA (vF 0) nilA))) nilA)) (C := [.fr (houseD n ts)]) (ι := lD) (φ := fun o => kD (kchM (alongM (turnM ts) o))) (chainsM (turnM ts) ms) .no (fun o ho => by
    have h1 := chains_len ho
    have h2 := along_len (turnM ts) o
    simp only [s_appF, s_consA, s_nilA, s_vF, List.getElem?_cons_zero, List.getElem?_cons_succ, Option.bind_some, along_val n ts o (by omega), kch_val (alongM (turnM ts) o) (by omega)])
  have hz : ((chainsM (turnM ts) ms).map lD).length ≤ sizeLine := by
    have := chains_many (turnM ts) ms
    rw [List.length_map]; exact szl (by omega)
  simp only [g_kinds_by_chains, F_kinds_by_chains, s_denF, s_startR, List.map_cons, List.map_nil, List.length_cons, List.length_nil, Nat.reduceAdd, Nat.reduceSub, List.replicate, List.append_nil, List.cons_append, List.nil_append, s_retF, s_mapLst, s_compF, s_seqItems, s_appF, s_consA, s_nilA, s_vF, List.getElem?_cons_zero, List.getElem?_cons_succ, Option.bind_some, e0, s_seqL, if_pos hz, s_compS, s_capS, e1, Option.map_some, s_outR]
  unfold kcsM
  rw [List.map_map]
  rfl
theorem bools_map {α : Type} (l : List α) (p : α → Bool) : boolsOf (l.map fun a => D.bl (p a)) = some (l.map p) := by
  induction l with
  | nil => rfl
  | cons a l ih =>
    rw [List.map_cons, List.map_cons]
    unfold boolsOf
    rw [ih]
    rfl
theorem thr_val (n : Nat) (ts : List T3) (ms : List Int) (ht : ts.length ≤ 90) : g_all_by_three [houseD n ts, lD ms] = some (.bl (thrP ts ms)) := by
  have h0 : ixD (houseD n ts) (.int 1) = some (.lst (ts.map tD)) := by unfold houseD; exact ix1
  have e1 := comp3G (ft := blF (bind2 (inD false) (vF 0) (vF 3))) (f := bind2 eqF (vF 2) (cF (.int 3))) (C := [.fr (lD ms)]) (ι := fun u : T3 => .int u.1) (κ := fun u : T3 => .int u.2.1) (μ := fun u : T3 => .int u.2.2) (q := fun u => decide (u.1 ∈ ms)) (φ := fun u => .bl (decide (u.2.2 = 3))) ts .no .no .no (fun u _ => by
    by_cases c : u.1 ∈ ms <;> simp [in_ints, c]) (fun u _ _ => by simp)
  have hz : (ts.map tD).length ≤ sizeLine := by rw [List.length_map]; exact szl (by omega)
  have e1 : compGo (tupG 3 (consG (nameG 0) (consG (nameG 1) (consG (nameG 2) nilG)))) (blF (bind2 (inD false) (vF 0) (vF 3))) (bind2 eqF (vF 2) (cF (.int 3))) (ts.map tD) [.no, .no, .no, .fr (lD ms)] = _ := e1
  simp only [g_all_by_three, F_all_by_three, s_denF, s_startR, List.map_cons, List.map_nil, List.length_cons, List.length_nil, Nat.reduceAdd, Nat.reduceSub, List.replicate, List.append_nil, List.cons_append, List.nil_append, s_retF, s_mapLst, s_compF, s_seqItems, s_appF, s_consA, s_nilA, s_bind2, s_cF, s_vF, List.getElem?_cons_zero, List.getElem?_cons_succ, Option.bind_some, h0, s_seqL, if_pos hz, s_compS, s_capS, e1, Option.map_some]
  show outD (((boolsOf (List.map (fun u : T3 => D.bl (decide (u.2.2 = 3))) (List.filter (fun u : T3 => decide (u.1 ∈ ms)) ts))).map fun bs => D.bl (bs.all id)).bind fun d => some (Out.rt d)) = _
  rw [bools_map]
  show some (D.bl _) = _
  unfold thrP
  rw [List.all_map]
  rfl
noncomputable abbrev eB : FS := seqF (asgF 4 (appF g_neighbours (consA (vF 0) (consA (vF 3) (consA (vF 1) nilA))))) (ifS (blF (bind2 eqF (appF lenD (consA (vF 4) nilA)) (cF (.int 1)))) (seqF (asgF 5 (appF g_chains (consA (vF 0) (consA (appF g_without (consA (vF 1) (consA (vF 3) nilA))) nilA)))) (extendF 2 (mapLst (compF 1 [4] (seqItems (vF 5)) (nameG 0) ttF (appF g_kind_with_one_beside (consA (vF 0) (consA (bind2 ixD (vF 1) (cF (.int 0))) nilA))))))) nxF)
def keM (t : Int → Int → Int) (ms : List Int) (e : Int) : List Kd := match nbM t e ms with
  | [y] => (chainsM t (woM ms e)).map fun o => kbesM o y
  | _ => []
theorem ke_step (n : Nat) (ts : List T3) (ms : List Int) (hm : ms.length ≤ 9) (told : List Kd) (ht : told.length ≤ 90) (e : Int) (s4 s5 : Slot) :
    ∃ s4' s5', eB [.fr (houseD n ts), .fr (lD ms), .ol (told.map kD), .fr (.int e), s4, s5] = some (.nx [.fr (houseD n ts), .fr (lD ms), .ol ((told ++ keM (turnM ts) ms e).map kD), .fr (.int e), s4', s5']) ∧ (keM (turnM ts) ms e).length ≤ 9 := by
  have h1 := nb_val n ts e ms (by omega)
  have hw := wo_val ms e (by omega)
  have hwl : (woM ms e).length ≤ ms.length := List.length_filter_le _ _
  have h2 := chains_val n ts (woM ms e) (by omega)
  have hcm := chains_many (turnM ts) (woM ms e)
  have a1 : asgF 4 (appF g_neighbours (consA (vF 0) (consA (vF 3) (consA (vF 1) nilA)))) [.fr (houseD n ts), .fr (lD ms), .ol (told.map kD), .fr (.int e), s4, s5] = some (.nx [.fr (houseD n ts), .fr (lD ms), .ol (told.map kD), .fr (.int e), .fr (lD (nbM (turnM ts) e ms)), s5]) := by
    simp only [s_asgF, s_appF, s_consA, s_nilA, s_vF, List.getElem?_cons_zero, List.getElem?_cons_succ, Option.bind_some, h1, List.set_cons_succ, List.set_cons_zero]
  have a2 : ∀ l : List Int, blF (bind2 eqF (appF lenD (consA (vF 4) nilA)) (cF (.int 1))) [.fr (houseD n ts), .fr (lD ms), .ol (told.map kD), .fr (.int e), .fr (lD l), s5] = some (decide ((l.length : Int) = 1)) := fun l => by
    simp only [s_blF, s_bind2, s_appF, s_consA, s_nilA, s_vF, s_cF, List.getElem?_cons_zero, List.getElem?_cons_succ, Option.bind_some, s_lenL, List.length_map, s_eqi]
  have bad : (nbM (turnM ts) e ms).length ≠ 1 → eB [.fr (houseD n ts), .fr (lD ms), .ol (told.map kD), .fr (.int e), s4, s5] = some (.nx [.fr (houseD n ts), .fr (lD ms), .ol ((told ++ []).map kD), .fr (.int e), .fr (lD (nbM (turnM ts) e ms)), s5]) := fun hb => by
    unfold eB
    rw [s_seqF, a1, Option.bind_some]
    dsimp only
    rw [s_ifS, a2, decide_eq_false (by omega), List.append_nil]
    rfl
  unfold keM
  cases h : nbM (turnM ts) e ms with
  | nil => exact ⟨_, _, bad (by rw [h]; simp), by simp⟩
  | cons y r =>
    cases r with
    | cons z r => exact ⟨_, _, bad (by rw [h]; simp), by simp⟩
    | nil =>
      have y0 : ixD (lD [y]) (.int 0) = some (.int y) := by simp [ixD, atI, ixN]
      have e1 := comp1M (f := appF g_kind_with_one_beside (consA (vF 0) (consA (bind2 ixD (vF 1) (cF (.int 0))) nilA))) (C := [.fr (lD [y])]) (ι := lD) (φ := fun o => kD (kbesM o y)) (chainsM (turnM ts) (woM ms e)) .no (fun o ho => by
        have h1 := chains_len ho
        simp only [s_appF, s_consA, s_nilA, s_vF, s_bind2, s_cF, List.getElem?_cons_zero, List.getElem?_cons_succ, Option.bind_some, y0, kbes_val o y (by omega)])
      have hz : ((chainsM (turnM ts) (woM ms e)).map lD).length ≤ sizeLine := by rw [List.length_map]; exact szl (by omega)
      have hz2 : (told.map kD).length + ((chainsM (turnM ts) (woM ms e)).map fun o => kD (kbesM o y)).length ≤ sizeLine := by rw [List.length_map, List.length_map]; exact szl (by omega)
      refine ⟨.fr (lD [y]), .fr (.lst ((chainsM (turnM ts) (woM ms e)).map lD)), ?_, by simp; omega⟩
      unfold eB
      rw [s_seqF, a1, h, Option.bind_some]
      dsimp only
      rw [s_ifS, a2]
      simp only [List.length_singleton, Int.ofNat_one, decide_true, Option.bind_some, if_true, s_seqF, s_asgF, s_appF, s_consA, s_nilA, s_vF, List.getElem?_cons_zero, List.getElem?_cons_succ, hw, h2, List.set_cons_succ, List.set_cons_zero, s_extendF, s_mapLst, s_compF, s_seqItems, s_seqL, if_pos hz, s_compS, s_capS, List.map_cons, List.map_nil, List.replicate, List.cons_append, List.nil_append, e1, Option.map_some, if_pos hz2]
      rw [List.map_append, List.map_map]
      rfl
theorem ke_loop (n : Nat) (ts : List T3) (ms : List Int) (hm : ms.length ≤ 9) : ∀ (es : List Int) (told : List Kd) (s3 s4 s5 : Slot), told.length + 9 * es.length ≤ 90 →
    ∃ s3' s4' s5', loopF (nameG 3) eB (es.map D.int) [.fr (houseD n ts), .fr (lD ms), .ol (told.map kD), s3, s4, s5] = some (.nx [.fr (houseD n ts), .fr (lD ms), .ol ((told ++ es.flatMap (keM (turnM ts) ms)).map kD), s3', s4', s5'])
  | [], told, s3, s4, s5, h => ⟨_, _, _, by rw [List.flatMap_nil, List.append_nil]; rfl⟩
  | e :: es, told, s3, s4, s5, h => by
    rw [List.length_cons] at h
    obtain ⟨s4', s5', h1, h2⟩ := ke_step n ts ms hm told (by omega) e s4 s5
    obtain ⟨t3, t4, t5, ih⟩ := ke_loop n ts ms hm es (told ++ keM (turnM ts) ms e) (.fr (.int e)) s4' s5' (by rw [List.length_append]; omega)
    refine ⟨t3, t4, t5, ?_⟩
    rw [List.map_cons]
    unfold loopF
    simp only [s_nameG, Option.bind_some, List.set_cons_succ, List.set_cons_zero]
    rw [h1]
    show loopF _ _ _ _ = _
    rw [ih, List.flatMap_cons, List.append_assoc]
theorem kes_val (n : Nat) (ts : List T3) (ms : List Int) (hm : ms.length ≤ 9) (ht : ts.length ≤ 90) : g_kinds_by_ends [houseD n ts, lD ms] = some (.lst ((if thrP ts ms = true then kesM (turnM ts) ms else []).map kD)) := by
  have h0 := thr_val n ts ms ht
  obtain ⟨s3, s4, s5, h1⟩ := ke_loop n ts ms hm ms [] .no .no .no (by simp; omega)
  have hz : 0 ≤ sizeLine := Nat.zero_le _
  have start : g_kinds_by_ends [houseD n ts, lD ms] = outD (seqF (ifS (notT (blF (appF g_all_by_three (consA (vF 0) (consA (vF 1) nilA))))) (frzF 2 (retF (vF 2))) nxF) (seqF (forF (seqItems (vF 1)) (nameG 3) eB) (frzF 2 (retF (vF 2)))) [.fr (houseD n ts), .fr (lD ms), .ol [], .no, .no, .no]) := by
    simp only [g_kinds_by_ends, F_kinds_by_ends, s_denF, s_startR, List.map_cons, List.map_nil, List.length_cons, List.length_nil, Nat.reduceAdd, Nat.reduceSub, List.replicate, List.cons_append, List.nil_append]
    rw [s_seqF (F := asgN 2 _), s_asgN]
    simp only [s_lstF, s_nilA, Option.bind_some, List.length_nil, if_pos hz, List.set_cons_succ, List.set_cons_zero]
  have a1 : notT (blF (appF g_all_by_three (consA (vF 0) (consA (vF 1) nilA)))) [.fr (houseD n ts), .fr (lD ms), .ol [], .no, .no, .no] = some (!thrP ts ms) := by
    simp only [s_notT, s_blF, s_appF, s_consA, s_nilA, s_vF, List.getElem?_cons_zero, List.getElem?_cons_succ, Option.bind_some, h0]
  rw [start, s_seqF, s_ifS, a1, Option.bind_some]
  cases c : thrP ts ms with
  | false => rfl
  | true =>
    rw [if_neg (by simp), if_pos rfl, s_nxF, Option.bind_some]
    dsimp only
    rw [s_seqF, s_forF]
    simp only [s_seqItems, s_vF, List.getElem?_cons_zero, List.getElem?_cons_succ, Option.bind_some, s_seqL]
    have h1 : loopF (nameG 3) eB (ms.map D.int) [.fr (houseD n ts), .fr (lD ms), .ol [], .no, .no, .no] = _ := h1
    rw [h1]
    rfl
theorem bks_txt : (List.range 7).all (fun k => (bksM k).all fun B => decide (B.1 = (0, 0)) || decide (kT B.1 ≠ "-")) = true := by decide +kernel
theorem bk_txt {k : Nat} {B : Bk} (h : B ∈ bksM k) : B.1 = (0, 0) ∨ kT B.1 ≠ "-" := by
  have hk : k < 7 := by
    match k, h with
    | 0, h => omega
    | 1, h => omega
    | 2, h => omega
    | 3, h => omega
    | 4, h => omega
    | 5, h => omega
    | 6, h => omega
    | n + 7, h => cases h
  have := List.all_eq_true.mp (List.all_eq_true.mp bks_txt k (List.mem_range.mpr hk)) B h
  rw [Bool.or_eq_true] at this
  exact this.imp of_decide_eq_true of_decide_eq_true
abbrev kB : FS := ifS (blF (bind2 neF (vF 2) (cF (.str "-")))) (retF (vF 2)) nxF
theorem ne_str (a b : Str) : neF (.str a) (.str b) = some (.bl (!decide (a = b))) := by
  unfold neF
  rw [if_pos (show dep (.str a) ≤ 100 from Nat.zero_le _)]
  by_cases c : a = b <;> simp [eqD, c]
theorem kind_loop {c : Kd} (hc : c = (0, 0) ∨ kT c ≠ "-") (a b : Slot) : ∀ (L : List Kd) (s : Slot), (∀ k ∈ L, k = (0, 0) ∨ k = c) →
    ((c = (0, 0) ∨ c ∉ L) ∧ ∃ s', loopF (nameG 2) kB (L.map kD) [a, b, s] = some (.nx [a, b, s'])) ∨ loopF (nameG 2) kB (L.map kD) [a, b, s] = some (.rt (kD c))
  | [], s, _ => .inl ⟨.inr (by simp), s, rfl⟩
  | k :: L, s, h => by
    rw [List.map_cons]
    by_cases z : k = (0, 0)
    · subst z
      have st : loopF (nameG 2) kB (kD (0, 0) :: L.map kD) [a, b, s] = loopF (nameG 2) kB (L.map kD) [a, b, .fr (kD (0, 0))] := by
        rw [loopF]
        rfl
      rw [st]
      rcases kind_loop hc a b L (.fr (kD (0, 0))) (fun k hk => h k (List.mem_cons_of_mem _ hk)) with ⟨h1, h2⟩ | h1
      · refine .inl ⟨?_, h2⟩
        by_cases c0 : c = (0, 0)
        · exact .inl c0
        · exact .inr fun m => (List.mem_cons.mp m).elim c0 (h1.resolve_left c0)
      · exact .inr h1
    · have e : k = c := (h k List.mem_cons_self).resolve_left z
      subst e
      have hk := hc.resolve_left z
      refine .inr ?_
      unfold loopF
      simp [ne_str, hk]
theorem kind_val (n : Nat) (ts : List T3) (ms : List Int) (c : Kd) (hm : ms.length ≤ 9) (ht : ts.length ≤ 90) (h1 : ∀ k ∈ kallM (turnM ts) (thrP ts ms) ms, k = (0, 0) ∨ k = c) (h2 : c = (0, 0) ∨ c ∈ kallM (turnM ts) (thrP ts ms) ms) (hc : c = (0, 0) ∨ kT c ≠ "-")
    (hz : (kallM (turnM ts) (thrP ts ms) ms).length ≤ 100) : g_kind_of [houseD n ts, lD ms] = some (kD c) := by
  have e1 := kcs_val n ts ms hm
  have e2 := kes_val n ts ms hm ht
  have ad : addX (.lst ((kcsM (turnM ts) ms).map kD)) (.lst ((if thrP ts ms = true then kesM (turnM ts) ms else []).map kD)) = some (.lst ((kallM (turnM ts) (thrP ts ms) ms).map kD)) := by
    unfold addX kallM
    dsimp only
    unfold kallM at hz
    rw [List.length_append] at hz
    rw [if_pos (by rw [List.length_map, List.length_map]; exact szl hz), List.map_append]
  have start : g_kind_of [houseD n ts, lD ms] = outD ((loopF (nameG 2) kB ((kallM (turnM ts) (thrP ts ms) ms).map kD) [.fr (houseD n ts), .fr (lD ms), .no]).bind fun o => match o with | .nx ρ' => retF (cF (.str "-")) ρ' | o => some o) := by
    simp only [g_kind_of, F_kind_of, s_denF, s_startR, List.map_cons, List.map_nil, List.length_cons, List.length_nil, Nat.reduceAdd, Nat.reduceSub, List.replicate, List.cons_append, List.nil_append, s_seqF, s_forF, s_seqItems, s_bind2, s_appF, s_consA, s_nilA, s_vF, List.getElem?_cons_zero, List.getElem?_cons_succ, Option.bind_some, e1, e2, ad, s_seqL]
    try rfl
  rw [start]
  rcases kind_loop hc (.fr (houseD n ts)) (.fr (lD ms)) _ .no h1 with ⟨h3, s', h4⟩ | h3
  · rw [h4]
    have : c = (0, 0) := by
      rcases h3 with z | z
      · exact z
      · exact h2.resolve_right z
    subst this
    rfl
  · rw [h3]
    rfl
theorem bfs_ne (t : Int → Int → Int) : ∀ (k : Nat) (part left : List Int) (p : Nat), part ≠ [] → bfsM t k part left p ≠ []
  | 0, part, left, p, h => h
  | k + 1, part, left, p, h => by
    unfold bfsM
    split
    · exact h
    · exact bfs_ne t k _ _ _ (by simp [h])
theorem sortI_ne {l : List Int} (h : l ≠ []) : sortI l ≠ [] := fun z => h (by
  have := (sortI_perm l).length_eq
  rw [z] at this
  exact List.length_eq_zero_iff.mp this.symm)
abbrev PM (n : Nat) (ts : List T3) (x : Int) : List Int := sortI (partM (turnM ts) n x)
theorem PM_ne (n : Nat) (ts : List T3) (x : Int) : PM n ts x ≠ [] := sortI_ne (bfs_ne _ _ _ _ _ (by simp))
theorem enum_idx (n : Nat) (f : Int → D) : enumD ((idx n).map f) = (idx n).map fun x => .tup [.int x, f x] := by
  unfold enumD
  apply List.ext_getElem
  · simp
  · intro i h1 h2
    simp [idx]
theorem parts_val (n : Nat) (ts : List T3) (hn : n ≤ 40) : g_parts [houseD n ts] = some (.lst (((idx n).filter fun x => decide ((PM n ts x).headD 0 = x)).map fun x => lD (PM n ts x))) := by
  have h0 : ixD (houseD n ts) (.int 0) = some (.int n) := by unfold houseD; exact ix0
  have hr : rangeA [.int (n : Int)] = some ((idx n).map D.int) := by rw [rangeA_ok (by omega) (by omega), range_idx]
  have e1 := comp1M (f := appF g_part_of (consA (vF 1) (consA (vF 0) nilA))) (C := [.fr (houseD n ts)]) (ι := D.int) (φ := fun x => lD (PM n ts x)) (idx n) .no (fun x hx => by
    simp only [s_appF, s_consA, s_nilA, s_vF, List.getElem?_cons_zero, List.getElem?_cons_succ, Option.bind_some, part_val n ts x hn hx])
  have e2 := comp2G (ft := blF (bind2 eqF (bind2 ixD (vF 1) (cF (.int 0))) (vF 0))) (f := vF 1) (C := []) (ι := D.int) (κ := fun x => lD (PM n ts x)) (q := fun x => decide ((PM n ts x).headD 0 = x)) (φ := fun x => lD (PM n ts x)) (idx n) .no .no (fun x _ => by
    have hne := PM_ne n ts x
    cases e : PM n ts x with
    | nil => exact absurd e hne
    | cons y r =>
      have y0 : ixD (lD (y :: r)) (.int 0) = some (.int y) := by simp [ixD, atI, ixN]
      simp only [s_blF, s_bind2, s_vF, s_cF, List.getElem?_cons_zero, List.getElem?_cons_succ, Option.bind_some, y0, s_eqi]
      rfl) (fun x _ _ => rfl)
  have hz : ((idx n).map D.int).length ≤ sizeLine := by rw [List.length_map, len_idx]; exact szl (by omega)
  have hz2 : ((idx n).map fun x => D.tup [.int x, lD (PM n ts x)]).length ≤ sizeLine := by rw [List.length_map, len_idx]; exact szl (by omega)
  simp only [g_parts, F_parts, s_denF, s_startR, List.map_cons, List.map_nil, List.length_cons, List.length_nil, Nat.reduceAdd, Nat.reduceSub, List.replicate, List.cons_append, List.nil_append, s_seqF, s_asgF, s_mapLst, s_compF, s_rng1, s_consA, s_nilA, s_bind2, s_cF, s_vF, List.getElem?_cons_zero, List.getElem?_cons_succ, Option.bind_some, h0, hr, if_pos hz, s_compS, s_capS, e1, Option.map_some, List.set_cons_succ, List.set_cons_zero, s_retF, s_itemsE, s_seqItems, s_seqL, enum_idx, if_pos hz2, e2, s_outR]
theorem kinds_val0 (n : Nat) (ts : List T3) (c : Int → Kd) (hn : n ≤ 40) (hk : ∀ x ∈ idx n, g_kind_of [houseD n ts, lD (PM n ts x)] = some (kD (c x))) : g_kinds [houseD n ts] = some (.lst (((idx n).filter fun x => decide ((PM n ts x).headD 0 = x)).map fun x => .tup [lD (PM n ts x), kD (c x)])) := by
  have e0 := parts_val n ts hn
  have e1 := comp1M (f := tupF (consA (vF 0) (consA (appF g_kind_of (consA (vF 1) (consA (vF 0) nilA))) nilA))) (C := [.fr (houseD n ts)]) (ι := fun x => lD (PM n ts x)) (φ := fun x => .tup [lD (PM n ts x), kD (c x)]) ((idx n).filter fun x => decide ((PM n ts x).headD 0 = x)) .no (fun x hx => by
    have := hk x (List.mem_filter.mp hx).1
    simp only [s_tupF, s_appF, s_consA, s_nilA, s_vF, List.getElem?_cons_zero, List.getElem?_cons_succ, Option.bind_some, this, List.length_cons, List.length_nil]
    rw [if_pos (szl (by omega))])
  have hz : (((idx n).filter fun x => decide ((PM n ts x).headD 0 = x)).map fun x => lD (PM n ts x)).length ≤ sizeLine := by
    rw [List.length_map]
    have := List.length_filter_le (fun x => decide ((PM n ts x).headD 0 = x)) (idx n)
    rw [len_idx] at this
    exact szl (by omega)
  simp only [g_kinds, F_kinds, s_denF, s_startR, List.map_cons, List.map_nil, List.length_cons, List.length_nil, Nat.reduceAdd, Nat.reduceSub, List.replicate, List.append_nil, List.cons_append, List.nil_append, s_retF, s_mapLst, s_compF, s_seqItems, s_appF, s_consA, s_nilA, s_vF, List.getElem?_cons_zero, List.getElem?_cons_succ, Option.bind_some, e0, s_seqL, if_pos hz, s_compS, s_capS, e1, Option.map_some, s_outR]
theorem hrD_row {P : List Int} (h : P ≠ []) (s : Str) : hrD (rowK P s) = .tup [lD P, .str s] := by
  cases P with
  | nil => exact absurd rfl h
  | cons x P => rfl
theorem filter_fm (n : Nat) (ts : List T3) : ∀ l : List Int, ((l.filter fun x => decide ((PM n ts x).headD 0 = x)).map fun x => D.tup [lD (PM n ts x), kD (kindL (kallM (turnM ts) (thrP ts (PM n ts x)) (PM n ts x)))]) =
    (l.filterMap fun x => if (sortI (partM (turnM ts) n x)).headD 0 = x then some (rowK (sortI (partM (turnM ts) n x)) (kT (kindL (kallM (turnM ts) (thrP ts (sortI (partM (turnM ts) n x))) (sortI (partM (turnM ts) n x)))))) else none).map hrD
  | [] => rfl
  | x :: l => by
    by_cases c : (PM n ts x).headD 0 = x
    · have e1 : (x :: l).filter (fun x => decide ((PM n ts x).headD 0 = x)) = x :: l.filter (fun x => decide ((PM n ts x).headD 0 = x)) := List.filter_cons_of_pos (decide_eq_true c)
      rw [e1, List.map_cons, filter_fm n ts l, List.filterMap_cons, if_pos c, List.map_cons, hrD_row (PM_ne n ts x)]
    · have e1 : (x :: l).filter (fun x => decide ((PM n ts x).headD 0 = x)) = l.filter (fun x => decide ((PM n ts x).headD 0 = x)) := List.filter_cons_of_neg (by simpa using c)
      rw [e1, filter_fm n ts l, List.filterMap_cons, if_neg c]
theorem kall_len (t : Int → Int → Int) (b : Bool) (ms : List Int) (hm : ms.length ≤ 9) : (kallM t b ms).length ≤ 100 := by
  have h1 := chains_many t ms
  have h2 : ∀ es : List Int, (es.flatMap (keM t ms)).length ≤ 9 * es.length := fun es => by
    induction es with
    | nil => simp
    | cons e es ih =>
      rw [List.flatMap_cons, List.length_append, List.length_cons]
      have : (keM t ms e).length ≤ 9 := by
        unfold keM
        split
        · have := chains_many t (woM ms e)
          have hwl : (woM ms e).length ≤ ms.length := List.length_filter_le _ _
          rw [List.length_map]
          omega
        · simp
      omega
  unfold kallM kcsM
  rw [List.length_append, List.length_map]
  have h3 : (kesM t ms).length ≤ 9 * ms.length := h2 ms
  split
  · omega
  · simp; omega
theorem Hs.kall {bs : List Blk} {σ : Int → Int} {p : Int × Blk} (h : Hs bs σ) (hp : p ∈ posM 0 bs) {ms : List Int} (hm : ms.Perm (blkL σ p)) :
    (∀ k ∈ kallM (turnM (tsM bs σ)) (thrP (tsM bs σ) ms) ms, k = (0, 0) ∨ k = p.2.2.1) ∧ (p.2.2.1 = (0, 0) ∨ p.2.2.1 ∈ kallM (turnM (tsM bs σ)) (thrP (tsM bs σ) ms) ms) := by
  rw [h.thr hp hm]
  obtain ⟨k1, k2⟩ := okB_kind (h.gb p.2 (pos_mem hp))
  have r := fun k => kall_rel (h.rlb hp) (fun y hy => hy) hm (b := thrM p.2.2.2) (k := k)
  exact ⟨fun k hk => k1 k ((r k).mp hk), k2.imp id fun z => (r _).mpr z⟩
theorem kinds_val {bs : List Blk} {σ : Int → Int} (h : Hs bs σ) (hn : totM bs ≤ 9) (ht : (tsM bs σ).length ≤ 90) : g_kinds [houseD (totM bs) (tsM bs σ)] = some (.lst ((sortH ((posM 0 bs).map (rowP kT σ))).map hrD)) := by
  rw [← kinds_due kT h]
  unfold kindsM
  rw [← filter_fm]
  refine kinds_val0 (totM bs) (tsM bs σ) (fun x => kindL (kallM (turnM (tsM bs σ)) (thrP (tsM bs σ) (PM (totM bs) (tsM bs σ) x)) (PM (totM bs) (tsM bs σ) x))) (by omega) fun x hx => ?_
  rw [mem_idx] at hx
  obtain ⟨i, hi, hi', rfl⟩ := h.rl.sur x hx.1 hx.2
  obtain ⟨p, hp, hpi⟩ := pos_at (bs := bs) (b := 0) (x := i) (by omega) (by omega)
  have hx' : σ i ∈ blkL σ p := mem_blkL.mpr ⟨i, hpi, rfl⟩
  obtain ⟨r1, r2⟩ := h.row hp hx'
  show g_kind_of [_, lD (sortI (partM (turnM (tsM bs σ)) (totM bs) (σ i)))] = some (kD (kindL (kallM _ (thrP _ (sortI (partM (turnM (tsM bs σ)) (totM bs) (σ i)))) (sortI (partM (turnM (tsM bs σ)) (totM bs) (σ i))))))
  rw [r1, r2]
  obtain ⟨k1, k2⟩ := Hs.kall h hp (sortI_perm (blkL σ p))
  have hl := pos_lo hp
  have hlen : (sortI (blkL σ p)).length ≤ 9 := by
    rw [(sortI_perm _).length_eq]
    unfold blkL
    rw [List.length_map, len_idx]
    omega
  exact kind_val _ _ _ _ hlen ht k1 k2 (bk_txt (h.gb p.2 (pos_mem hp))) (kall_len _ _ _ hlen)
theorem chain_l_val (ts : List Int) (h : ts.length ≤ 40) : g_l_chain [lD ts] = some (.lst ((chnT ts).map tD)) := by
  have hr : rangeA [.int (ts.length : Int)] = some ((idx ts.length).map D.int) := by rw [rangeA_ok (by omega) (by omega), range_idx]
  have e1 := comp1M (f := tupF (consA (vF 0) (consA (bind2 addX (vF 0) (cF (.int 1))) (consA (bind2 ixD (vF 1) (vF 0)) nilA)))) (C := [.fr (lD ts)]) (ι := D.int) (φ := fun k => .tup [.int k, .int (k + 1), .int (ts.getD k.toNat 0)]) (idx ts.length) .no (fun k hk => by
    rw [mem_idx] at hk
    have := at_i ts k.toNat (ts.getD k.toNat 0) (by simp [List.getD_eq_getElem?_getD, show k.toNat < ts.length by omega])
    rw [show ((k.toNat : Nat) : Int) = k by omega] at this
    have hz : 3 ≤ sizeLine := szl (by omega)
    simp only [s_tupF, s_consA, s_nilA, s_vF, s_bind2, s_cF, List.getElem?_cons_zero, List.getElem?_cons_succ, Option.bind_some, s_add, this, List.length_cons, List.length_nil, Nat.reduceAdd, if_pos hz])
  have hz : ((idx ts.length).map D.int).length ≤ sizeLine := by rw [List.length_map, len_idx]; exact szl (by omega)
  simp only [g_l_chain, F_l_chain, s_denF, s_startR, List.map_cons, List.map_nil, List.length_cons, List.length_nil, Nat.reduceAdd, Nat.reduceSub, List.replicate, List.append_nil, List.cons_append, List.nil_append, s_retF, s_mapLst, s_compF, s_rng1, s_consA, s_nilA, s_appF, s_lenL, List.length_map, s_vF, List.getElem?_cons_zero, List.getElem?_cons_succ, Option.bind_some, hr]
  rw [List.length_map] at hz
  rw [if_pos hz]
  simp only [s_compS, s_capS, List.map_cons, List.map_nil, List.replicate, List.cons_append, List.nil_append, List.getElem?_cons_zero, List.getElem?_cons_succ, e1, Option.map_some, Option.bind_some, s_outR]
  congr 2
  unfold chnT idx
  rw [List.map_map, List.map_map]
  apply List.ext_getElem
  · simp
  · intro i h1 h2
    simp at h1
    simp [tD, List.getD_eq_getElem?_getD, h1]
abbrev cD (ts : List T3) : D := .lst (ts.map tD)
theorem add_ints (a b : List Int) (h : a.length + b.length ≤ 100) : addX (lD a) (lD b) = some (lD (a ++ b)) := by
  unfold addX
  dsimp only
  rw [if_pos (by rw [List.length_map, List.length_map]; exact szl h), ← List.map_append]
theorem add_ts (a b : List T3) (h : a.length + b.length ≤ 100) : addX (cD a) (cD b) = some (cD (a ++ b)) := by
  unfold addX
  dsimp only
  rw [if_pos (by rw [List.length_map, List.length_map]; exact szl h), ← List.map_append]
theorem chn_len (ts : List Int) : (chnT ts).length = ts.length := by unfold chnT; simp
theorem lst1 {x : Int} {ρ : Rho} : mapLst (lstF (consA (cF (.int x)) nilA)) ρ = some (lD [x]) := by
  have hz : 1 ≤ sizeLine := szl (by omega)
  simp only [s_mapLst, s_lstF, s_consA, s_cF, s_nilA, Option.bind_some, List.length_cons, List.length_nil, Nat.zero_add, if_pos hz, Option.map_some]
  rfl
theorem lst2 {x y : Int} {ρ : Rho} : mapLst (lstF (consA (cF (.int x)) (consA (cF (.int y)) nilA))) ρ = some (lD [x, y]) := by
  have hz : 2 ≤ sizeLine := szl (by omega)
  simp only [s_mapLst, s_lstF, s_consA, s_cF, s_nilA, Option.bind_some, List.length_cons, List.length_nil, Nat.zero_add, Nat.reduceAdd, if_pos hz, Option.map_some]
  rfl
theorem lst3 {x y z : Int} {ρ : Rho} : mapLst (lstF (consA (cF (.int x)) (consA (cF (.int y)) (consA (cF (.int z)) nilA)))) ρ = some (lD [x, y, z]) := by
  have hz : 3 ≤ sizeLine := szl (by omega)
  simp only [s_mapLst, s_lstF, s_consA, s_cF, s_nilA, Option.bind_some, List.length_cons, List.length_nil, Nat.zero_add, Nat.reduceAdd, if_pos hz, Option.map_some]
  rfl
theorem lst4 {x y z u : Int} {ρ : Rho} : mapLst (lstF (consA (cF (.int x)) (consA (cF (.int y)) (consA (cF (.int z)) (consA (cF (.int u)) nilA))))) ρ = some (lD [x, y, z, u]) := by
  have hz : 4 ≤ sizeLine := szl (by omega)
  simp only [s_mapLst, s_lstF, s_consA, s_cF, s_nilA, Option.bind_some, List.length_cons, List.length_nil, Nat.zero_add, Nat.reduceAdd, if_pos hz, Option.map_some]
  rfl
theorem tup1 {f g h : FE} {ρ : Rho} {x y z : Int} (h1 : f ρ = some (.int x)) (h2 : g ρ = some (.int y)) (h3 : h ρ = some (.int z)) : mapLst (lstF (consA (tupF (consA f (consA g (consA h nilA)))) nilA)) ρ = some (cD [(x, y, z)]) := by
  have hz : 1 ≤ sizeLine := szl (by omega)
  have hz3 : 3 ≤ sizeLine := szl (by omega)
  simp only [s_mapLst, s_lstF, s_consA, s_tupF, h1, h2, h3, s_nilA, Option.bind_some, List.length_cons, List.length_nil, Nat.zero_add, Nat.reduceAdd, if_pos hz, if_pos hz3, Option.map_some]
  rfl
theorem app_chain {f : FE} {ρ : Rho} {l : List Int} (h : f ρ = some (lD l)) (hl : l.length ≤ 40) : appF g_l_chain (consA f nilA) ρ = some (cD (chnT l)) := by
  simp only [s_appF, s_consA, h, s_nilA, Option.bind_some, chain_l_val l hl]
theorem m3_val {ρ : Rho} {m : Nat} (h : ρ[0]? = some (.fr (.int m))) (hm : m ≤ 6) (k : Nat) (hk : k ≤ 3) : mapLst (mulZ (mapLst (lstF (consA (cF (.int 3)) nilA))) (bind2 subD (vF 0) (cF (.int (k : Int))))) ρ = some (lD (r3 (m - k))) := by
  have := mul3_val (f := bind2 subD (vF 0) (cF (.int (k : Int)))) (ρ := ρ) (k := (m : Int) - k) (by simp [h]) (by omega) (by omega)
  rw [s_mapLst, this]
  have e : ((m : Int) - k).toNat = m - k := by omega
  rw [e]
  rfl
theorem r3_len (n : Nat) : (r3 n).length = n := List.length_replicate
theorem b2_add {f g : FE} {ρ : Rho} {a b : List Int} (h1 : f ρ = some (lD a)) (h2 : g ρ = some (lD b)) (h : a.length + b.length ≤ 100) : bind2 addX f g ρ = some (lD (a ++ b)) := by
  rw [s_bind2, h1, h2]
  exact add_ints a b h
theorem b2_addT {f g : FE} {ρ : Rho} {a b : List T3} (h1 : f ρ = some (cD a)) (h2 : g ρ = some (cD b)) (h : a.length + b.length ≤ 100) : bind2 addX f g ρ = some (cD (a ++ b)) := by
  rw [s_bind2, h1, h2]
  exact add_ts a b h
abbrev Kp := Str × List T3
def kpD (p : Kp) : D := .tup [.str p.1, cD p.2]
def someM (m : Nat) : List Kp := ("a", chnT (r3 (m - 1))) :: ((if 1 < m then ([("b", chnT (r3 (m - 2) ++ [4]))] : List Kp) else []) ++ (if 3 < m then ([("d", chnT (r3 (m - 2)) ++ [((m : Int) - 3, (m : Int) - 1, 3)])] : List Kp) else []))
def rareM : List (List Kp) := [[], [], [("i5", chnT [5]), ("i6", chnT [6])], [("h3", chnT [3, 5])], [("h4", chnT [3, 3, 5]), ("f4", chnT [3, 4, 3])], [], [("e6", chnT [3, 3, 3, 3] ++ [(2, 5, 3)])]]
theorem tup_kp {s : Str} {f : FE} {ρ : Rho} {ts : List T3} (h : f ρ = some (cD ts)) : tupF (consA (cF (.str s)) (consA f nilA)) ρ = some (kpD (s, ts)) := by
  have hz : 2 ≤ sizeLine := szl (by omega)
  simp only [s_tupF, s_consA, s_cF, h, s_nilA, Option.bind_some, List.length_cons, List.length_nil, Nat.zero_add, Nat.reduceAdd, if_pos hz]
  rfl
theorem lstA {f : FA} {ρ : Rho} {ds : List D} (h : f ρ = some ds) (hl : ds.length ≤ 100) : lstF f ρ = some ds := by
  rw [s_lstF, h, Option.bind_some, if_pos (szl hl)]
theorem consA_val {f : FE} {g : FA} {ρ : Rho} {d : D} {ds : List D} (h1 : f ρ = some d) (h2 : g ρ = some ds) : consA f g ρ = some (d :: ds) := by
  rw [s_consA, h1, h2]
  rfl
theorem some_val (m : Nat) (z : D) (h1 : 1 ≤ m) (h6 : m ≤ 6) (s3 s4 s5 : Slot) (R : FS) : seqF (asgN 2 (lstF (consA (tupF (consA (cF (.str "a")) (consA (appF g_l_chain (consA (mapLst (mulZ (mapLst (lstF (consA (cF (.int 3)) nilA))) (bind2 subD (vF 0) (cF (.int 1))))) nilA)) nilA))) nilA)))
    (seqF (ifS (blF (bind2 gtD (vF 0) (cF (.int 1)))) (appendF 2 (tupF (consA (cF (.str "b")) (consA (appF g_l_chain (consA (bind2 addX (mapLst (mulZ (mapLst (lstF (consA (cF (.int 3)) nilA))) (bind2 subD (vF 0) (cF (.int 2))))) (mapLst (lstF (consA (cF (.int 4)) nilA)))) nilA)) nilA)))) nxF)
    (seqF (ifS (blF (bind2 gtD (vF 0) (cF (.int 3)))) (appendF 2 (tupF (consA (cF (.str "d")) (consA (bind2 addX (appF g_l_chain (consA (mapLst (mulZ (mapLst (lstF (consA (cF (.int 3)) nilA))) (bind2 subD (vF 0) (cF (.int 2))))) nilA)) (mapLst (lstF (consA (tupF (consA (bind2 subD (vF 0) (cF (.int 3))) (consA (bind2 subD (vF 0) (cF (.int 1))) (consA (cF (.int 3)) nilA)))) nilA)))) nilA)))) nxF) R)) [.fr (.int m), .fr z, .no, s3, s4, s5] =
    R [.fr (.int m), .fr z, .ol ((someM m).map kpD), s3, s4, s5] := by
  have r1 := r3_len (m - 1)
  have r2 := r3_len (m - 2)
  have a1 : lstF (consA (tupF (consA (cF (.str "a")) (consA (appF g_l_chain (consA (mapLst (mulZ (mapLst (lstF (consA (cF (.int 3)) nilA))) (bind2 subD (vF 0) (cF (.int 1))))) nilA)) nilA))) nilA) [.fr (.int m), .fr z, .no, s3, s4, s5] = some [kpD ("a", chnT (r3 (m - 1)))] :=
    lstA (consA_val (tup_kp (app_chain (m3_val rfl h6 1 (by omega)) (by omega))) rfl) (by simp)
  have g1 : ∀ s2, blF (bind2 gtD (vF 0) (cF (.int 1))) [.fr (.int m), .fr z, s2, s3, s4, s5] = some (decide (1 < m)) := fun s2 => by
    by_cases c : 1 < m
    · have c' : (1 : Int) < m := by omega
      simp [c', c]; try omega
    · have c' : ¬ (1 : Int) < m := by omega
      simp [c', c]; try omega
  have g3 : ∀ s2, blF (bind2 gtD (vF 0) (cF (.int 3))) [.fr (.int m), .fr z, s2, s3, s4, s5] = some (decide (3 < m)) := fun s2 => by
    by_cases c : 3 < m
    · have c' : (3 : Int) < m := by omega
      simp [c', c]; try omega
    · have c' : ¬ (3 : Int) < m := by omega
      simp [c', c]; try omega
  have a2 : ∀ s2, tupF (consA (cF (.str "b")) (consA (appF g_l_chain (consA (bind2 addX (mapLst (mulZ (mapLst (lstF (consA (cF (.int 3)) nilA))) (bind2 subD (vF 0) (cF (.int 2))))) (mapLst (lstF (consA (cF (.int 4)) nilA)))) nilA)) nilA)) [.fr (.int m), .fr z, s2, s3, s4, s5] = some (kpD ("b", chnT (r3 (m - 2) ++ [4]))) := fun s2 =>
    tup_kp (app_chain (b2_add (m3_val rfl h6 2 (by omega)) lst1 (by rw [r2]; simp; omega)) (by rw [List.length_append, r2]; simp; omega))
  have a3 : ∀ s2, tupF (consA (cF (.str "d")) (consA (bind2 addX (appF g_l_chain (consA (mapLst (mulZ (mapLst (lstF (consA (cF (.int 3)) nilA))) (bind2 subD (vF 0) (cF (.int 2))))) nilA)) (mapLst (lstF (consA (tupF (consA (bind2 subD (vF 0) (cF (.int 3))) (consA (bind2 subD (vF 0) (cF (.int 1))) (consA (cF (.int 3)) nilA)))) nilA)))) nilA)) [.fr (.int m), .fr z, s2, s3, s4, s5] = some (kpD ("d", chnT (r3 (m - 2)) ++ [((m : Int) - 3, (m : Int) - 1, 3)])) := fun s2 =>
    tup_kp (b2_addT (app_chain (m3_val rfl h6 2 (by omega)) (by omega)) (tup1 rfl rfl rfl) (by rw [chn_len, r2]; simp; omega))
  have ap : ∀ (f : FE) (ds : List D) (d : D), (∀ s2, f [.fr (.int m), .fr z, s2, s3, s4, s5] = some d) → ds.length ≤ 50 → appendF 2 f [.fr (.int m), .fr z, .ol ds, s3, s4, s5] = some (.nx [.fr (.int m), .fr z, .ol (ds ++ [d]), s3, s4, s5]) := fun f ds d hf hd => by
    rw [s_appendF, hf]
    simp only [Option.bind_some, List.getElem?_cons_zero, List.getElem?_cons_succ, if_pos (show ds.length < sizeLine from small1000 (by omega)), List.set_cons_succ, List.set_cons_zero]
  rw [s_seqF, s_asgN, a1]
  simp only [Option.bind_some, List.set_cons_succ, List.set_cons_zero]
  rw [s_seqF, s_ifS, g1, Option.bind_some]
  unfold someM
  by_cases c1 : 1 < m
  · rw [if_pos (decide_eq_true c1), if_pos c1, ap _ _ _ a2 (by simp), Option.bind_some]
    dsimp only
    rw [s_seqF, s_ifS, g3, Option.bind_some]
    by_cases c3 : 3 < m
    · rw [if_pos (decide_eq_true c3), if_pos c3, ap _ _ _ a3 (by simp), Option.bind_some]
      rfl
    · rw [if_neg (by simpa using c3), if_neg c3]
      rfl
  · have c3 : ¬ 3 < m := by omega
    rw [if_neg (by simpa using c1), if_neg c1, s_nxF, Option.bind_some]
    dsimp only
    rw [s_seqF, s_ifS, g3, Option.bind_some, if_neg (by simpa using c3), if_neg c3]
    rfl
theorem some_ok : ([1, 2, 3, 4, 5, 6] : List Nat).all (fun m => (someM m).all fun p => (bksM m).any fun B => decide (kT B.1 = p.1 ++ Str.ofString (toString (m : Int))) && decide (B.2 = p.2) && decide ((p.1 ++ Str.ofString (toString (m : Int))).length ≤ 100) && decide (p.1.length + (Str.ofString (toString (m : Int))).length ≤ 100)) = true := by decide +kernel
theorem rare_ok : (List.range 7).all (fun m => (rareM.getD m []).all fun p => (bksM m).any fun B => decide (kT B.1 = p.1) && decide (B.2 = p.2)) = true := by decide +kernel
def Made (m : Nat) (r : Option D) : Prop := ∃ B : Bk, B ∈ bksM m ∧ r = some (.tup [.str (kT B.1), cD B.2])
theorem some_in {m : Nat} (h1 : 1 ≤ m) (h6 : m ≤ 6) {p : Kp} (hp : p ∈ someM m) : (∃ B : Bk, B ∈ bksM m ∧ kT B.1 = p.1 ++ Str.ofString (toString (m : Int)) ∧ B.2 = p.2) ∧ p.1.length + (Str.ofString (toString (m : Int))).length ≤ 100 := by
  have hm : m ∈ ([1, 2, 3, 4, 5, 6] : List Nat) := by
    have : m = 1 ∨ m = 2 ∨ m = 3 ∨ m = 4 ∨ m = 5 ∨ m = 6 := by omega
    simpa using this
  obtain ⟨B, hB, e⟩ := List.any_eq_true.mp (List.all_eq_true.mp (List.all_eq_true.mp some_ok m hm) p hp)
  rw [Bool.and_eq_true, Bool.and_eq_true, Bool.and_eq_true] at e
  exact ⟨⟨B, hB, of_decide_eq_true e.1.1.1, of_decide_eq_true e.1.1.2⟩, of_decide_eq_true e.2⟩
theorem rare_in {m : Nat} (h6 : m ≤ 6) {p : Kp} (hp : p ∈ rareM.getD m []) : ∃ B : Bk, B ∈ bksM m ∧ kT B.1 = p.1 ∧ B.2 = p.2 := by
  obtain ⟨B, hB, e⟩ := List.any_eq_true.mp (List.all_eq_true.mp (List.all_eq_true.mp rare_ok m (List.mem_range.mpr (by omega))) p hp)
  rw [Bool.and_eq_true] at e
  exact ⟨B, hB, of_decide_eq_true e.1, of_decide_eq_true e.2⟩
abbrev rlD (l : List Kp) : D := .lst (l.map kpD)
theorem l_nil {ρ : Rho} : mapLst (lstF nilA) ρ = some (rlD []) := by
  rw [s_mapLst, lstA rfl (by simp)]
  rfl
theorem l_kp1 {f : FE} {ρ : Rho} {p : Kp} (h : f ρ = some (kpD p)) : mapLst (lstF (consA f nilA)) ρ = some (rlD [p]) := by
  rw [s_mapLst, lstA (consA_val h rfl) (by simp)]
  rfl
theorem l_kp2 {f g : FE} {ρ : Rho} {p q : Kp} (h : f ρ = some (kpD p)) (h' : g ρ = some (kpD q)) : mapLst (lstF (consA f (consA g nilA))) ρ = some (rlD [p, q]) := by
  rw [s_mapLst, lstA (consA_val h (consA_val h' rfl)) (by simp)]
  rfl
theorem rare_val (a b s2 s3 s4 s5 : Slot) (R : FS) : seqF (asgN 5 (lstF (consA (mapLst (lstF nilA)) (consA (mapLst (lstF nilA)) (consA (mapLst (lstF nilA)) (consA (mapLst (lstF (consA (tupF (consA (cF (.str "h3")) (consA (appF g_l_chain (consA (mapLst (lstF (consA (cF (.int 3)) (consA (cF (.int 5)) nilA)))) nilA)) nilA))) nilA))) (consA (mapLst (lstF (consA (tupF (consA (cF (.str "h4")) (consA (appF g_l_chain (consA (mapLst (lstF (consA (cF (.int 3)) (consA (cF (.int 3)) (consA (cF (.int 5)) nilA))))) nilA)) nilA))) (consA (tupF (consA (cF (.str "f4")) (consA (appF g_l_chain (consA (mapLst (lstF (consA (cF (.int 3)) (consA (cF (.int 4)) (consA (cF (.int 3)) nilA))))) nilA)) nilA))) nilA)))) nilA)))))))
    (seqF (asgN 5 (addN (vR 5) (mapLst (lstF (consA (mapLst (lstF nilA)) (consA (mapLst (lstF (consA (tupF (consA (cF (.str "e6")) (consA (bind2 addX (appF g_l_chain (consA (mapLst (lstF (consA (cF (.int 3)) (consA (cF (.int 3)) (consA (cF (.int 3)) (consA (cF (.int 3)) nilA)))))) nilA)) (mapLst (lstF (consA (tupF (consA (cF (.int 2)) (consA (cF (.int 5)) (consA (cF (.int 3)) nilA)))) nilA)))) nilA))) nilA))) nilA))))))
    (seqF (setIF 5 (cF (.int 2)) (mapLst (lstF (consA (tupF (consA (cF (.str "i5")) (consA (appF g_l_chain (consA (mapLst (lstF (consA (cF (.int 5)) nilA))) nilA)) nilA))) (consA (tupF (consA (cF (.str "i6")) (consA (appF g_l_chain (consA (mapLst (lstF (consA (cF (.int 6)) nilA))) nilA)) nilA))) nilA))))) R)) [a, b, s2, s3, s4, s5] = R [a, b, s2, s3, s4, .ol (rareM.map rlD)] := by
  have e1 : ∀ ρ : Rho, lstF (consA (mapLst (lstF nilA)) (consA (mapLst (lstF nilA)) (consA (mapLst (lstF nilA)) (consA (mapLst (lstF (consA (tupF (consA (cF (.str "h3")) (consA (appF g_l_chain (consA (mapLst (lstF (consA (cF (.int 3)) (consA (cF (.int 5)) nilA)))) nilA)) nilA))) nilA))) (consA (mapLst (lstF (consA (tupF (consA (cF (.str "h4")) (consA (appF g_l_chain (consA (mapLst (lstF (consA (cF (.int 3)) (consA (cF (.int 3)) (consA (cF (.int 5)) nilA))))) nilA)) nilA))) (consA (tupF (consA (cF (.str "f4")) (consA (appF g_l_chain (consA (mapLst (lstF (consA (cF (.int 3)) (consA (cF (.int 4)) (consA (cF (.int 3)) nilA))))) nilA)) nilA))) nilA)))) nilA))))) ρ = some [rlD [], rlD [], rlD [], rlD [("h3", chnT [3, 5])], rlD [("h4", chnT [3, 3, 5]), ("f4", chnT [3, 4, 3])]] := fun ρ =>
    lstA (consA_val l_nil (consA_val l_nil (consA_val l_nil (consA_val (l_kp1 (tup_kp (app_chain lst2 (by simp)))) (consA_val (l_kp2 (tup_kp (app_chain lst3 (by simp))) (tup_kp (app_chain lst3 (by simp)))) rfl))))) (by simp)
  have e2 : ∀ ρ : Rho, mapLst (lstF (consA (mapLst (lstF nilA)) (consA (mapLst (lstF (consA (tupF (consA (cF (.str "e6")) (consA (bind2 addX (appF g_l_chain (consA (mapLst (lstF (consA (cF (.int 3)) (consA (cF (.int 3)) (consA (cF (.int 3)) (consA (cF (.int 3)) nilA)))))) nilA)) (mapLst (lstF (consA (tupF (consA (cF (.int 2)) (consA (cF (.int 5)) (consA (cF (.int 3)) nilA)))) nilA)))) nilA))) nilA))) nilA))) ρ = some (.lst [rlD [], rlD [("e6", chnT [3, 3, 3, 3] ++ [(2, 5, 3)])]]) := fun ρ => by
    rw [s_mapLst, lstA (consA_val l_nil (consA_val (l_kp1 (tup_kp (b2_addT (app_chain lst4 (by simp)) (tup1 rfl rfl rfl) (by rw [chn_len]; simp)))) rfl)) (by simp)]
    rfl
  have e3 : ∀ ρ : Rho, mapLst (lstF (consA (tupF (consA (cF (.str "i5")) (consA (appF g_l_chain (consA (mapLst (lstF (consA (cF (.int 5)) nilA))) nilA)) nilA))) (consA (tupF (consA (cF (.str "i6")) (consA (appF g_l_chain (consA (mapLst (lstF (consA (cF (.int 6)) nilA))) nilA)) nilA))) nilA))) ρ = some (rlD [("i5", chnT [5]), ("i6", chnT [6])]) := fun ρ =>
    l_kp2 (tup_kp (app_chain lst1 (by simp))) (tup_kp (app_chain lst1 (by simp)))
  rw [s_seqF, s_asgN, e1]
  simp only [Option.bind_some, List.set_cons_succ, List.set_cons_zero]
  rw [s_seqF, s_asgN, s_addN, e2]
  have hz : 7 ≤ sizeLine := szl (by omega)
  simp only [s_vR, List.getElem?_cons_succ, List.getElem?_cons_zero, Option.bind_some, List.length_cons, List.length_nil, Nat.zero_add, Nat.reduceAdd, if_pos hz, List.set_cons_succ, List.set_cons_zero]
  rw [s_seqF]
  unfold setIF
  rw [e3]
  rfl
theorem at_kp (l : List Kp) (i : Nat) (p : Kp) (h : l[i]? = some p) : ixD (rlD l) (.int (i : Int)) = some (kpD p) := atI_nat (by rw [List.getElem?_map, h]; rfl)
theorem at_mod {l : List Kp} (hl : l ≠ []) (z : Int) (k : Nat) (hk : k = l.length) : ∃ p ∈ l, ixD (rlD l) (.int (z % (k : Int))) = some (kpD p) := by
  subst hk
  have hpos : 0 < l.length := List.length_pos_iff.mpr hl
  have h0 : 0 ≤ z % (l.length : Int) := Int.emod_nonneg _ (by omega)
  have h1 : z % (l.length : Int) < l.length := Int.emod_lt_of_pos _ (by omega)
  have e : ((z % (l.length : Int)).toNat : Int) = z % (l.length : Int) := by omega
  have hlt : (z % (l.length : Int)).toNat < l.length := by omega
  refine ⟨l[(z % (l.length : Int)).toNat], List.getElem_mem hlt, ?_⟩
  have := at_kp l _ _ (List.getElem?_eq_getElem hlt)
  rwa [e] at this
theorem str_val (m : Nat) (h6 : m ≤ 6) : strD [.int m] = some (.str (Str.ofString (toString (m : Int)))) := by
  unfold strD
  exact if_pos (Nat.lt_of_le_of_lt (Nat.log2_le_self _) (by omega))
theorem finite_val (m : Nat) (z : Int) (h1 : 1 ≤ m) (h6 : m ≤ 6) : Made m (g_l_finite [.int m, .int z]) := by
  have hne : someM m ≠ [] := by unfold someM; simp
  obtain ⟨p, hp, ep⟩ := at_mod hne z (someM m).length rfl
  have hpos : 0 < (someM m).length := List.length_pos_iff.mpr hne
  have md := modD_ok (i := z) (show (0 : Int) < (someM m).length by omega)
  obtain ⟨⟨B, hB, eB1, eB2⟩, hlen⟩ := some_in h1 h6 hp
  have start : g_l_finite [.int m, .int z] = outD (F_l_finite [.fr (.int m), .fr (.int z), .no, .no, .no, .no]) := rfl
  have ad : addX (.str p.1) (.str (Str.ofString (toString (m : Int)))) = some (.str (p.1 ++ Str.ofString (toString (m : Int)))) := by
    unfold addX
    exact if_pos (szl hlen)
  rw [start]
  unfold F_l_finite
  rw [some_val m (.int z) h1 h6]
  have e1 : bind2 ixD (vR 2) (bind2 modD (vF 1) (appF lenD (consA (vR 2) nilA))) [.fr (.int m), .fr (.int z), .ol ((someM m).map kpD), .no, .no, .no] = some (.tup [.str p.1, cD p.2]) := by
    simp only [s_bind2, s_vR, s_vF, s_appF, s_consA, s_nilA, List.getElem?_cons_zero, List.getElem?_cons_succ, Option.bind_some, s_lenL, List.length_map, md]
    exact ep
  rw [s_seqF, s_asgG, e1]
  simp only [Option.bind_some, s_tupG, List.length_cons, List.length_nil, Nat.zero_add, Nat.reduceAdd, if_true, s_consG, s_nameG, s_nilG, List.set_cons_succ, List.set_cons_zero]
  rw [s_seqF, s_asgF]
  simp only [s_bind2, s_vF, s_appF, s_consA, s_nilA, List.getElem?_cons_zero, List.getElem?_cons_succ, Option.bind_some, str_val m h6, ad, List.set_cons_succ, List.set_cons_zero]
  rw [rare_val]
  have hr : ixD (.lst (rareM.map rlD)) (.int (m : Int)) = some (rlD (rareM.getD m [])) := atI_nat (by
    have : m < rareM.length := by show m < 7; omega
    rw [List.getElem?_map, List.getD_eq_getElem?_getD, List.getElem?_eq_getElem this]
    rfl)
  have fd8 := fdivD_ok (i := z) (show (0 : Int) < 8 by decide) (by decide)
  have fd16 := fdivD_ok (i := z) (show (0 : Int) < 16 by decide) (by decide)
  have md2 := modD_ok (i := z / 8) (show (0 : Int) < 2 by decide)
  have fin : Made m (some (.tup [.str (p.1 ++ Str.ofString (toString (m : Int))), cD p.2])) := ⟨B, hB, by rw [eB1, eB2]⟩
  have hz2 : 2 ≤ sizeLine := szl (by omega)
  have last : outD (retF (tupF (consA (vF 3) (consA (vF 4) nilA))) [.fr (.int m), .fr (.int z), .ol ((someM m).map kpD), .fr (.str (p.1 ++ Str.ofString (toString (m : Int)))), .fr (cD p.2), .ol (rareM.map rlD)]) = some (.tup [.str (p.1 ++ Str.ofString (toString (m : Int))), cD p.2]) := by
    simp only [s_retF, s_tupF, s_consA, s_nilA, s_vF, List.getElem?_cons_zero, List.getElem?_cons_succ, Option.bind_some, List.length_cons, List.length_nil, Nat.zero_add, Nat.reduceAdd, if_pos hz2, s_outR]
  rw [s_seqF, s_ifS]
  by_cases c : z / 8 % 2 = 0 ∧ rareM.getD m [] ≠ []
  · have hpos2 : 0 < (rareM.getD m []).length := List.length_pos_iff.mpr c.2
    obtain ⟨q, hq, eq⟩ := at_mod c.2 (z / 16) (rareM.getD m []).length rfl
    have md3 := modD_ok (i := z / 16) (show (0 : Int) < (rareM.getD m []).length by omega)
    obtain ⟨C, hC, eC1, eC2⟩ := rare_in h6 hq
    have hp' : (0 : Int) < (rareM.getD m []).length := by omega
    simp only [s_andT, s_blF, s_bind2, s_vF, s_vR, s_cF, s_appF, s_consA, s_nilA, List.getElem?_cons_zero, List.getElem?_cons_succ, Option.bind_some, fd8, md2, c.1, s_eqi, decide_true, if_true, hr, s_lenL, List.length_map, s_gt, decide_eq_true hp', s_retF, fd16, md3, eq, s_outR]
    refine ⟨C, hC, ?_⟩
    rw [eC1, eC2]
    rfl
  · have e2 : andT (blF (bind2 eqF (bind2 modD (bind2 fdivD (vF 1) (cF (.int 8))) (cF (.int 2))) (cF (.int 0)))) (blF (bind2 gtD (appF lenD (consA (bind2 ixD (vR 5) (vF 0)) nilA)) (cF (.int 0)))) [.fr (.int m), .fr (.int z), .ol ((someM m).map kpD), .fr (.str (p.1 ++ Str.ofString (toString (m : Int)))), .fr (cD p.2), .ol (rareM.map rlD)] = some false := by
      by_cases c1 : z / 8 % 2 = 0
      · have c2 : rareM.getD m [] = [] := Classical.byContradiction fun w => c ⟨c1, w⟩
        simp only [s_andT, s_blF, s_bind2, s_vF, s_vR, s_cF, s_appF, s_consA, s_nilA, List.getElem?_cons_zero, List.getElem?_cons_succ, Option.bind_some, fd8, md2, c1, s_eqi, decide_true, if_true, hr, s_lenL, List.length_map, s_gt, c2, List.length_nil]
        rfl
      · simp only [s_andT, s_blF, s_bind2, s_vF, s_cF, List.getElem?_cons_zero, List.getElem?_cons_succ, Option.bind_some, fd8, md2, s_eqi, decide_eq_false c1, Bool.false_eq_true, if_false]
    rw [e2, Option.bind_some, if_neg (by simp), s_nxF, Option.bind_some]
    dsimp only
    rw [last]
    exact fin
def starM (m : Nat) : List T3 := starT (m - 1)
def nvA (m : Nat) : List (List T3) := [chnT (r3 (m - 2) ++ [0]), chnT ([5] ++ r3 (m - 3) ++ [4]), chnT ([4] ++ r3 (m - 3) ++ [4]), chnT (r3 (m - 2) ++ [6]), chnT (r3 (m - 1)) ++ [(0, (m : Int) - 1, 3)], chnT (r3 (m - 2) ++ [5])]
def nvB (m : Nat) : List (List T3) := [chnT (r3 (m - 2)) ++ [((m : Int) - 3, (m : Int) - 1, 4)], chnT ([3, 5] ++ r3 (m - 3)), starM m ++ [(1, 2, 3)]]
theorem nv_ok2 : ((0, 0), chnT [0]) ∈ bksM 2 := by decide +kernel
theorem nv_ok3 : ((nvA 3).take 5 ++ [chnT [5, 5]]).all (fun t => decide (((0, 0), t) ∈ bksM 3)) = true := by decide +kernel
theorem nv_ok4 : ((nvA 4).take 5 ++ nvB 4).all (fun t => decide (((0, 0), t) ∈ bksM 4)) = true := by decide +kernel
theorem nv_ok5 : (nvA 5 ++ nvB 5 ++ [starM 5]).all (fun t => decide (((0, 0), t) ∈ bksM 5)) = true := by decide +kernel
theorem nv_ok6 : (nvA 6 ++ nvB 6 ++ [starM 6]).all (fun t => decide (((0, 0), t) ∈ bksM 6)) = true := by decide +kernel
abbrev tlD (l : List (List T3)) : D := .lst (l.map cD)
theorem add_tl (a b : List (List T3)) (h : a.length + b.length ≤ 100) : addX (tlD a) (tlD b) = some (tlD (a ++ b)) := by
  unfold addX
  dsimp only
  rw [if_pos (by rw [List.length_map, List.length_map]; exact szl h), ← List.map_append]
theorem l_tl1 {f : FE} {ρ : Rho} {a : List T3} (h : f ρ = some (cD a)) : mapLst (lstF (consA f nilA)) ρ = some (tlD [a]) := by
  rw [s_mapLst, lstA (consA_val h rfl) (by simp)]
  rfl
theorem l_tl2 {f g : FE} {ρ : Rho} {a b : List T3} (h : f ρ = some (cD a)) (h' : g ρ = some (cD b)) : mapLst (lstF (consA f (consA g nilA))) ρ = some (tlD [a, b]) := by
  rw [s_mapLst, lstA (consA_val h (consA_val h' rfl)) (by simp)]
  rfl
theorem at_tl {l : List (List T3)} (z : Int) (k : Nat) (hk : k = l.length) (hl : 0 < k) : ∃ p ∈ l, ixD (tlD l) (.int (z % (k : Int))) = some (cD p) := by
  subst hk
  have h0 : 0 ≤ z % (l.length : Int) := Int.emod_nonneg _ (by omega)
  have h1 : z % (l.length : Int) < l.length := Int.emod_lt_of_pos _ (by omega)
  have e : ((z % (l.length : Int)).toNat : Int) = z % (l.length : Int) := by omega
  have hlt : (z % (l.length : Int)).toNat < l.length := by omega
  refine ⟨l[(z % (l.length : Int)).toNat], List.getElem_mem hlt, ?_⟩
  have : ixD (tlD l) (.int ((z % (l.length : Int)).toNat : Int)) = some (cD (l[(z % (l.length : Int)).toNat])) := atI_nat (by rw [List.getElem?_map, List.getElem?_eq_getElem hlt]; rfl)
  rwa [e] at this
noncomputable abbrev starF : FE := mapLst (compF 1 [] (rng2 (consA (cF (.int 1)) (consA (vF 0) nilA))) (nameG 0) ttF (tupF (consA (cF (.int 0)) (consA (vF 0) (consA (cF (.int 3)) nilA)))))
theorem star_val {ρ : Rho} {m : Nat} (h : ρ[0]? = some (.fr (.int m))) (hm : 1 ≤ m) (h6 : m ≤ 6) : starF ρ = some (cD (starM m)) := by
  have hr : rangeB [.int 1, .int (m : Int)] = some ((idx (m - 1)).map fun k => .int (k + 1)) := by
    rw [rangeB_ok (by omega) (by omega) (by omega) (by omega)]
    unfold rangeD idx
    rw [List.map_map, show ((m : Int) - 1).toNat = m - 1 by omega]
    congr 1
    exact List.map_congr_left fun k _ => by simp; omega
  have e1 := comp1M (f := tupF (consA (cF (.int 0)) (consA (vF 0) (consA (cF (.int 3)) nilA)))) (C := []) (ι := fun k : Int => D.int (k + 1)) (φ := fun k => .tup [.int 0, .int (k + 1), .int 3]) (idx (m - 1)) .no (fun k hk => by
    have hz : 3 ≤ sizeLine := szl (by omega)
    simp only [s_tupF, s_consA, s_nilA, s_vF, s_cF, List.getElem?_cons_zero, List.getElem?_cons_succ, Option.bind_some, List.length_cons, List.length_nil, Nat.zero_add, Nat.reduceAdd, if_pos hz])
  have hz : ((idx (m - 1)).map fun k : Int => D.int (k + 1)).length ≤ sizeLine := by rw [List.length_map, len_idx]; exact szl (by omega)
  simp only [starF, s_mapLst, s_compF, s_rng2, s_consA, s_nilA, s_cF, s_vF, h, Option.bind_some, hr, if_pos hz, s_compS, List.map_nil, List.append_nil, List.replicate, e1, Option.map_some]
  congr 2
  unfold starM starT idx
  rw [List.map_map, List.map_map]
  exact List.map_congr_left fun k _ => rfl
theorem eq_i (m : Nat) (k : Nat) : decide ((m : Int) = (k : Int)) = decide (m = k) := by
  by_cases c : m = k
  · subst c; simp
  · have : ¬ (m : Int) = (k : Int) := by omega
    simp [c, this]
theorem never_val (m : Nat) (z : Int) (h1 : 2 ≤ m) (h6 : m ≤ 6) : Made m (g_l_never [.int m, .int z]) := by
  have r1 := r3_len (m - 1)
  have r2 := r3_len (m - 2)
  have r3' := r3_len (m - 3)
  have start : g_l_never [.int m, .int z] = outD (F_l_never [.fr (.int m), .fr (.int z), .no, .no]) := rfl
  rw [start]
  unfold F_l_never
  have M1 : ∀ (s2 s3 : Slot), mapLst (mulZ (mapLst (lstF (consA (cF (.int 3)) nilA))) (bind2 subD (vF 0) (cF (.int 1)))) [.fr (.int m), .fr (.int z), s2, s3] = some (lD (r3 (m - 1))) := fun s2 s3 => m3_val rfl h6 1 (by omega)
  have M2 : ∀ (s2 s3 : Slot), mapLst (mulZ (mapLst (lstF (consA (cF (.int 3)) nilA))) (bind2 subD (vF 0) (cF (.int 2)))) [.fr (.int m), .fr (.int z), s2, s3] = some (lD (r3 (m - 2))) := fun s2 s3 => m3_val rfl h6 2 (by omega)
  have M3 : ∀ (s2 s3 : Slot), mapLst (mulZ (mapLst (lstF (consA (cF (.int 3)) nilA))) (bind2 subD (vF 0) (cF (.int 3)))) [.fr (.int m), .fr (.int z), s2, s3] = some (lD (r3 (m - 3))) := fun s2 s3 => m3_val rfl h6 3 (by omega)
  have c2 : ∀ (k : Int) (s2 s3 : Slot), appF g_l_chain (consA (bind2 addX (mapLst (mulZ (mapLst (lstF (consA (cF (.int 3)) nilA))) (bind2 subD (vF 0) (cF (.int 2))))) (mapLst (lstF (consA (cF (.int k)) nilA)))) nilA) [.fr (.int m), .fr (.int z), s2, s3] = some (cD (chnT (r3 (m - 2) ++ [k]))) := fun k s2 s3 =>
    app_chain (b2_add (M2 s2 s3) lst1 (by rw [r2]; simp; omega)) (by rw [List.length_append, r2]; simp; omega)
  have c3 : ∀ (k : Int) (s2 s3 : Slot), appF g_l_chain (consA (bind2 addX (bind2 addX (mapLst (lstF (consA (cF (.int k)) nilA))) (mapLst (mulZ (mapLst (lstF (consA (cF (.int 3)) nilA))) (bind2 subD (vF 0) (cF (.int 3)))))) (mapLst (lstF (consA (cF (.int 4)) nilA)))) nilA) [.fr (.int m), .fr (.int z), s2, s3] = some (cD (chnT ([k] ++ r3 (m - 3) ++ [4]))) := fun k s2 s3 =>
    app_chain (b2_add (b2_add lst1 (M3 s2 s3) (by rw [r3']; simp; omega)) lst1 (by rw [List.length_append, r3']; simp; omega)) (by rw [List.length_append, List.length_append, r3']; simp; omega)
  have s1 := fun (s2 s3 : Slot) => l_tl2 (c2 0 s2 s3) (c3 5 s2 s3)
  have s2 := fun (s2 s3 : Slot) => l_tl2 (c3 4 s2 s3) (c2 6 s2 s3)
  have t5 : ∀ (s2 s3 : Slot), bind2 addX (appF g_l_chain (consA (mapLst (mulZ (mapLst (lstF (consA (cF (.int 3)) nilA))) (bind2 subD (vF 0) (cF (.int 1))))) nilA)) (mapLst (lstF (consA (tupF (consA (cF (.int 0)) (consA (bind2 subD (vF 0) (cF (.int 1))) (consA (cF (.int 3)) nilA)))) nilA))) [.fr (.int m), .fr (.int z), s2, s3] = some (cD (chnT (r3 (m - 1)) ++ [(0, (m : Int) - 1, 3)])) := fun s2 s3 =>
    b2_addT (app_chain (M1 s2 s3) (by omega)) (tup1 rfl rfl rfl) (by rw [chn_len, r1]; simp; omega)
  have s3 := fun (s2 s3 : Slot) => l_tl2 (t5 s2 s3) (c2 5 s2 s3)
  rw [s_seqF, s_asgF, s1]
  simp only [Option.bind_some, List.set_cons_succ, List.set_cons_zero]
  rw [s_seqF, s_asgF, s_bind2, s2]
  simp only [s_vF, List.getElem?_cons_zero, List.getElem?_cons_succ, Option.bind_some]
  rw [add_tl _ _ (by simp)]
  simp only [Option.bind_some, List.set_cons_succ, List.set_cons_zero]
  rw [s_seqF, s_asgF, s_bind2, s3]
  simp only [s_vF, List.getElem?_cons_zero, List.getElem?_cons_succ, Option.bind_some]
  rw [add_tl _ _ (by simp)]
  simp only [Option.bind_some, List.set_cons_succ, List.set_cons_zero]
  have eA : ([chnT (r3 (m - 2) ++ [0]), chnT ([5] ++ r3 (m - 3) ++ [4])] ++ [chnT ([4] ++ r3 (m - 3) ++ [4]), chnT (r3 (m - 2) ++ [6])] ++ [chnT (r3 (m - 1)) ++ [(0, (m : Int) - 1, 3)], chnT (r3 (m - 2) ++ [5])] : List (List T3)) = nvA m := rfl
  rw [eA]
  have mk : ∀ t : List T3, ((0, 0), t) ∈ bksM m → Made m (some (.tup [.str "-", cD t])) := fun t ht => ⟨_, ht, rfl⟩
  have tp : ∀ {f : FE} {ρ : Rho} {t : List T3}, f ρ = some (cD t) → tupF (consA (cF (.str "-")) (consA f nilA)) ρ = some (.tup [.str "-", cD t]) := fun h => tup_kp h
  have q2 : blF (bind2 eqF (vF 0) (cF (.int 2))) [.fr (.int m), .fr (.int z), .fr (tlD (nvA m)), .no] = some (decide (m = 2)) := by
    simp only [s_blF, s_bind2, s_vF, s_cF, List.getElem?_cons_zero, Option.bind_some, s_eqi]
    exact congrArg some (eq_i m 2)
  have q3 : blF (bind2 eqF (vF 0) (cF (.int 3))) [.fr (.int m), .fr (.int z), .fr (tlD (nvA m)), .no] = some (decide (m = 3)) := by
    simp only [s_blF, s_bind2, s_vF, s_cF, List.getElem?_cons_zero, Option.bind_some, s_eqi]
    exact congrArg some (eq_i m 3)
  rw [s_seqF, s_ifS, q2, Option.bind_some]
  by_cases d2 : m = 2
  · subst d2
    rw [if_pos (decide_eq_true rfl), s_retF, tp (app_chain lst1 (by simp))]
    exact mk _ nv_ok2
  rw [if_neg (by simpa using d2), s_nxF, Option.bind_some]
  dsimp only
  have sl : ∀ s3 : Slot, sliceF (vF 2) noP (exP (cF (.int 5))) [.fr (.int m), .fr (.int z), .fr (tlD (nvA m)), s3] = some (tlD ((nvA m).take 5)) := fun s3 => rfl
  rw [s_seqF, s_ifS, q3, Option.bind_some]
  by_cases d3 : m = 3
  · subst d3
    obtain ⟨t, ht, et⟩ := at_tl (l := (nvA 3).take 5 ++ [chnT [5, 5]]) z 6 rfl (by omega)
    have md := modD_ok (i := z) (show (0 : Int) < 6 by decide)
    have e1 : bind2 ixD (bind2 addX (sliceF (vF 2) noP (exP (cF (.int 5)))) (mapLst (lstF (consA (appF g_l_chain (consA (mapLst (lstF (consA (cF (.int 5)) (consA (cF (.int 5)) nilA)))) nilA)) nilA)))) (bind2 modD (vF 1) (cF (.int 6))) [.fr (.int ((3 : Nat) : Int)), .fr (.int z), .fr (tlD (nvA 3)), .no] = some (cD t) := by
      rw [s_bind2, s_bind2, sl, l_tl1 (app_chain lst2 (by simp))]
      simp only [Option.bind_some]
      rw [add_tl _ _ (by simp [nvA])]
      simp only [s_bind2, s_vF, s_cF, List.getElem?_cons_zero, List.getElem?_cons_succ, Option.bind_some, md]
      exact et
    rw [if_pos (decide_eq_true rfl), s_retF, tp e1]
    exact mk _ (of_decide_eq_true (List.all_eq_true.mp nv_ok3 t ht))
  rw [if_neg (by simpa using d3), s_nxF, Option.bind_some]
  dsimp only
  have b1 : ∀ (s2 s3 : Slot), bind2 addX (appF g_l_chain (consA (mapLst (mulZ (mapLst (lstF (consA (cF (.int 3)) nilA))) (bind2 subD (vF 0) (cF (.int 2))))) nilA)) (mapLst (lstF (consA (tupF (consA (bind2 subD (vF 0) (cF (.int 3))) (consA (bind2 subD (vF 0) (cF (.int 1))) (consA (cF (.int 4)) nilA)))) nilA))) [.fr (.int m), .fr (.int z), s2, s3] = some (cD (chnT (r3 (m - 2)) ++ [((m : Int) - 3, (m : Int) - 1, 4)])) := fun s2 s3 =>
    b2_addT (app_chain (M2 s2 s3) (by omega)) (tup1 rfl rfl rfl) (by rw [chn_len, r2]; simp; omega)
  have b2 : ∀ (s2 s3 : Slot), appF g_l_chain (consA (bind2 addX (mapLst (lstF (consA (cF (.int 3)) (consA (cF (.int 5)) nilA)))) (mapLst (mulZ (mapLst (lstF (consA (cF (.int 3)) nilA))) (bind2 subD (vF 0) (cF (.int 3)))))) nilA) [.fr (.int m), .fr (.int z), s2, s3] = some (cD (chnT ([3, 5] ++ r3 (m - 3)))) := fun s2 s3 =>
    app_chain (b2_add lst2 (M3 s2 s3) (by rw [r3']; simp; omega)) (by rw [List.length_append, r3']; simp; omega)
  have st : ∀ (s2 s3 : Slot), starF [.fr (.int m), .fr (.int z), s2, s3] = some (cD (starM m)) := fun s2 s3 => star_val rfl (by omega) h6
  have sm : (starM m).length ≤ 10 := by unfold starM starT; simp; omega
  have b3 : ∀ (s2 s3 : Slot), bind2 addX starF (mapLst (lstF (consA (tupF (consA (cF (.int 1)) (consA (cF (.int 2)) (consA (cF (.int 3)) nilA)))) nilA))) [.fr (.int m), .fr (.int z), s2, s3] = some (cD (starM m ++ [(1, 2, 3)])) := fun s2 s3 =>
    b2_addT (st s2 s3) (tup1 rfl rfl rfl) (by simp; omega)
  rw [s_seqF, s_asgN, lstA (consA_val (b1 _ _) (consA_val (b2 _ _) rfl)) (by simp)]
  simp only [Option.bind_some, List.set_cons_succ, List.set_cons_zero]
  rw [s_seqF, s_appendF, b3]
  have hz2 : 2 < sizeLine := small1000 (by omega)
  simp only [Option.bind_some, List.getElem?_cons_zero, List.getElem?_cons_succ, List.length_cons, List.length_nil, Nat.zero_add, Nat.reduceAdd, if_pos hz2, List.set_cons_succ, List.set_cons_zero]
  have eB : ([cD (chnT (r3 (m - 2)) ++ [((m : Int) - 3, (m : Int) - 1, 4)]), cD (chnT ([3, 5] ++ r3 (m - 3)))] ++ [cD (starM m ++ [(1, 2, 3)])] : List D) = (nvB m).map cD := rfl
  rw [eB]
  have q4 : blF (bind2 gtD (vF 0) (cF (.int 4))) [.fr (.int m), .fr (.int z), .fr (tlD (nvA m)), .ol ((nvB m).map cD)] = some (decide (4 < m)) := by
    by_cases c : 4 < m
    · have c' : (4 : Int) < m := by omega
      simp [c, c']
    · have c' : ¬ (4 : Int) < m := by omega
      simp [c, c']
  rw [s_seqF, s_ifS, q4, Option.bind_some]
  have vb : vR 3 [.fr (.int m), .fr (.int z), .fr (tlD (nvA m)), .ol ((nvB m).map cD)] = some (tlD (nvB m)) := rfl
  by_cases d4 : 4 < m
  · rw [if_pos (decide_eq_true d4)]
    obtain ⟨t, ht, et⟩ := at_tl (l := nvA m ++ nvB m ++ [starM m]) z 10 rfl (by omega)
    have md := modD_ok (i := z) (show (0 : Int) < 10 by decide)
    have e1 : bind2 ixD (bind2 addX (bind2 addX (vF 2) (vR 3)) (mapLst (lstF (consA starF nilA)))) (bind2 modD (vF 1) (cF (.int 10))) [.fr (.int m), .fr (.int z), .fr (tlD (nvA m)), .ol ((nvB m).map cD)] = some (cD t) := by
      rw [s_bind2, s_bind2, s_bind2, vb, l_tl1 (st _ _)]
      simp only [s_vF, List.getElem?_cons_zero, List.getElem?_cons_succ, Option.bind_some]
      rw [add_tl _ _ (by simp [nvA, nvB])]
      simp only [Option.bind_some]
      rw [add_tl _ _ (by simp [nvA, nvB])]
      simp only [s_bind2, s_vF, s_cF, List.getElem?_cons_zero, List.getElem?_cons_succ, Option.bind_some, md]
      exact et
    rw [s_retF, tp e1]
    refine mk _ ?_
    rcases (show m = 5 ∨ m = 6 by omega) with rfl | rfl
    · exact of_decide_eq_true (List.all_eq_true.mp nv_ok5 t ht)
    · exact of_decide_eq_true (List.all_eq_true.mp nv_ok6 t ht)
  · have : m = 4 := by omega
    subst this
    rw [if_neg (by simp), s_nxF, Option.bind_some]
    dsimp only
    obtain ⟨t, ht, et⟩ := at_tl (l := (nvA 4).take 5 ++ nvB 4) z 8 rfl (by omega)
    have md := modD_ok (i := z) (show (0 : Int) < 8 by decide)
    have e1 : bind2 ixD (bind2 addX (sliceF (vF 2) noP (exP (cF (.int 5)))) (vR 3)) (bind2 modD (vF 1) (cF (.int 8))) [.fr (.int ((4 : Nat) : Int)), .fr (.int z), .fr (tlD (nvA 4)), .ol ((nvB 4).map cD)] = some (cD t) := by
      rw [s_bind2, s_bind2, sl, vb]
      simp only [Option.bind_some]
      rw [add_tl _ _ (by simp [nvA, nvB])]
      simp only [s_bind2, s_vF, s_cF, List.getElem?_cons_zero, List.getElem?_cons_succ, Option.bind_some, md]
      exact et
    rw [s_retF, tp e1]
    exact mk _ (of_decide_eq_true (List.all_eq_true.mp nv_ok4 t ht))
def dueD (p : Int × Blk) : D := .tup [.lst ((idx p.2.1).map fun i => .int (p.1 + i)), .str (kT p.2.2.1)]
theorem bks_len : (List.range 7).all (fun k => (bksM k).all fun B => decide (B.2.length ≤ 7)) = true := by decide +kernel
theorem bk_len {k : Nat} {B : Bk} (h : B ∈ bksM k) : B.2.length ≤ 7 ∧ k ≤ 6 := by
  have hk : k < 7 := by
    match k, h with
    | 0, h => omega
    | 1, h => omega
    | 2, h => omega
    | 3, h => omega
    | 4, h => omega
    | 5, h => omega
    | 6, h => omega
    | n + 7, h => cases h
  exact ⟨of_decide_eq_true (List.all_eq_true.mp (List.all_eq_true.mp bks_len k (List.mem_range.mpr hk)) B h), by omega⟩
theorem rng2_val {fa : FA} {ρ : Rho} {i j : Int} (h : fa ρ = some [.int i, .int j]) (h1 : -1000 ≤ i) (h2 : i ≤ 1000) (h3 : -1000 ≤ j) (h4 : j ≤ 1000) : rngN2 fa ρ = some (rangeD i j) := by
  have c : (-(2 ^ 62) ≤ i ∧ i < 2 ^ 62 ∧ -(2 ^ 62) ≤ j ∧ j < 2 ^ 62) ∧ (j - i).toNat ≤ 1000000 := ⟨⟨by omega, by omega, by omega, by omega⟩, by omega⟩
  unfold rngN2
  rw [h]
  exact if_pos c
noncomputable abbrev bC : FT := blF (bind2 ltD (vF 5) (vF 2))
noncomputable abbrev bB : FS := seqF (asgF 6 (appF g_l_mix (consA (appF g_l_at (consA (vF 0) (consA (bind2 addX (cF (.int 1)) (vF 5)) nilA))) (consA (cF (.int 2)) nilA)))) (seqF (asgF 7 (bind2 addX (cF (.int 1)) (bind2 modD (vF 6) (bind2 subD (vF 2) (vF 5))))) (seqF (ifS (blF (bind2 eqF (bind2 modD (bind2 fdivD (vF 6) (cF (.int 6))) (cF (.int 3))) (cF (.int 0)))) (asgF 7 (bind2 subD (vF 2) (vF 5))) nxF) (seqF (asgF 8 (appF g_l_finite (consA (vF 7) (consA (bind2 fdivD (vF 6) (cF (.int 32))) nilA)))) (seqF (ifS (andT (blF (bind2 gtD (vF 7) (cF (.int 1)))) (blF (bind2 eqF (bind2 modD (bind2 fdivD (vF 6) (cF (.int 18))) (cF (.int 4))) (cF (.int 0))))) (asgF 8 (appF g_l_never (consA (vF 7) (consA (bind2 fdivD (vF 6) (cF (.int 32))) nilA)))) nxF) (seqF (extendF 3 (mapLst (compF 3 [5] (seqItems (bind2 ixD (vF 8) (cF (.int 1)))) (tupG 3 (consG (nameG 0) (consG (nameG 1) (consG (nameG 2) nilG)))) ttF (tupF (consA (bind2 addX (vF 3) (vF 0)) (consA (bind2 addX (vF 3) (vF 1)) (consA (vF 2) nilA))))))) (seqF (appendF 4 (tupF (consA (mapLst (rngN2 (consA (vF 5) (consA (bind2 addX (vF 5) (vF 7)) nilA)))) (consA (bind2 ixD (vF 8) (cF (.int 0))) nilA)))) (asgF 5 (bind2 addX (vF 5) (vF 7)))))))))
theorem built_step (ns : List Int) (num : Slot) (n b : Nat) (hn : n ≤ 6) (hb : b < n) (turns due : List D) (h3 : turns.length ≤ 50) (h4 : due.length ≤ 10) (s6 s7 s8 : Slot) :
    ∃ (m : Nat) (B : Bk) (s6' s7' s8' : Slot), 1 ≤ m ∧ m ≤ n - b ∧ B ∈ bksM m ∧ bB [.fr (lD ns), num, .fr (.int n), .ol turns, .ol due, .fr (.int b), s6, s7, s8] =
      some (.nx [.fr (lD ns), num, .fr (.int n), .ol (turns ++ (B.2.map (shT b)).map tD), .ol (due ++ [dueD ((b : Int), (m, B))]), .fr (.int ((b + m : Nat) : Int)), s6', s7', s8']) := by
  obtain ⟨c, hc⟩ := at_val ns (1 + b) (by omega)
  have e1b : (1 : Int) + (b : Int) = ((1 + b : Nat) : Int) := by omega
  obtain ⟨z, z0, z1, hz⟩ := mix_val c 2 (by omega)
  have hz : g_l_mix [.int c, .int 2] = some (.int z) := hz
  have md := modD_ok (i := z) (show (0 : Int) < (n : Int) - b by omega)
  have fd6 := fdivD_ok (i := z) (show (0 : Int) < 6 by decide) (by decide)
  have md3 := modD_ok (i := z / 6) (show (0 : Int) < 3 by decide)
  have fd32 := fdivD_ok (i := z) (show (0 : Int) < 32 by decide) (by decide)
  have fd18 := fdivD_ok (i := z) (show (0 : Int) < 18 by decide) (by decide)
  have md4 := modD_ok (i := z / 18) (show (0 : Int) < 4 by decide)
  have hm0 : 0 ≤ z % ((n : Int) - b) := Int.emod_nonneg _ (by omega)
  have hm1 : z % ((n : Int) - b) < (n : Int) - b := Int.emod_lt_of_pos _ (by omega)
  -- how many
  have hm : ∃ (m : Nat) (s7' : Slot), 1 ≤ m ∧ m ≤ n - b ∧ ∀ R : FS, seqF (asgF 7 (bind2 addX (cF (.int 1)) (bind2 modD (vF 6) (bind2 subD (vF 2) (vF 5))))) (seqF (ifS (blF (bind2 eqF (bind2 modD (bind2 fdivD (vF 6) (cF (.int 6))) (cF (.int 3))) (cF (.int 0)))) (asgF 7 (bind2 subD (vF 2) (vF 5))) nxF) R) [.fr (lD ns), num, .fr (.int n), .ol turns, .ol due, .fr (.int b), .fr (.int z), s7, s8] = R [.fr (lD ns), num, .fr (.int n), .ol turns, .ol due, .fr (.int b), .fr (.int z), .fr (.int m), s8] := by
    by_cases q : z / 6 % 3 = 0
    · refine ⟨n - b, .no, by omega, by omega, fun R => ?_⟩
      simp only [s_seqF, s_asgF, s_ifS, s_blF, s_bind2, s_cF, s_vF, List.getElem?_cons_zero, List.getElem?_cons_succ, Option.bind_some, s_sub, md, s_add, List.set_cons_succ, List.set_cons_zero, fd6, md3, q, s_eqi, decide_true, if_true]
      rw [show (n : Int) - b = ((n - b : Nat) : Int) by omega]
    · refine ⟨(1 + z % ((n : Int) - b)).toNat, .no, by omega, by omega, fun R => ?_⟩
      simp only [s_seqF, s_asgF, s_ifS, s_blF, s_bind2, s_cF, s_vF, List.getElem?_cons_zero, List.getElem?_cons_succ, Option.bind_some, s_sub, md, s_add, List.set_cons_succ, List.set_cons_zero, fd6, md3, s_eqi, decide_eq_false q, Bool.false_eq_true, if_false, s_nxF]
      rw [show (((1 + z % ((n : Int) - b)).toNat : Nat) : Int) = 1 + z % ((n : Int) - b) by omega]
  obtain ⟨m, _, m1, m2, em⟩ := hm
  -- what is made
  have hB : ∃ B : Bk, B ∈ bksM m ∧ ∀ R : FS, seqF (asgF 8 (appF g_l_finite (consA (vF 7) (consA (bind2 fdivD (vF 6) (cF (.int 32))) nilA)))) (seqF (ifS (andT (blF (bind2 gtD (vF 7) (cF (.int 1)))) (blF (bind2 eqF (bind2 modD (bind2 fdivD (vF 6) (cF (.int 18))) (cF (.int 4))) (cF (.int 0))))) (asgF 8 (appF g_l_never (consA (vF 7) (consA (bind2 fdivD (vF 6) (cF (.int 32))) nilA)))) nxF) R) [.fr (lD ns), num, .fr (.int n), .ol turns, .ol due, .fr (.int b), .fr (.int z), .fr (.int m), s8] = R [.fr (lD ns), num, .fr (.int n), .ol turns, .ol due, .fr (.int b), .fr (.int z), .fr (.int m), .fr (.tup [.str (kT B.1), cD B.2])] := by
    obtain ⟨B, hB, eB⟩ := finite_val m (z / 32) m1 (by omega)
    by_cases q : 1 < m ∧ z / 18 % 4 = 0
    · obtain ⟨C, hC, eC⟩ := never_val m (z / 32) (by omega) (by omega)
      refine ⟨C, hC, fun R => ?_⟩
      have q1 : (1 : Int) < m := by omega
      simp only [s_seqF, s_asgF, s_ifS, s_andT, s_blF, s_bind2, s_cF, s_vF, s_appF, s_consA, s_nilA, List.getElem?_cons_zero, List.getElem?_cons_succ, Option.bind_some, fd32, eB, List.set_cons_succ, List.set_cons_zero, s_gt, decide_eq_true q1, if_true, fd18, md4, q.2, s_eqi, decide_true, eC]
    · refine ⟨B, hB, fun R => ?_⟩
      by_cases q1 : (1 : Int) < m
      · have q2 : ¬ z / 18 % 4 = 0 := fun w => q ⟨by omega, w⟩
        simp only [s_seqF, s_asgF, s_ifS, s_andT, s_blF, s_bind2, s_cF, s_vF, s_appF, s_consA, s_nilA, List.getElem?_cons_zero, List.getElem?_cons_succ, Option.bind_some, fd32, eB, List.set_cons_succ, List.set_cons_zero, s_gt, decide_eq_true q1, if_true, fd18, md4, s_eqi, decide_eq_false q2, Bool.false_eq_true, if_false, s_nxF]
      · simp only [s_seqF, s_asgF, s_ifS, s_andT, s_blF, s_bind2, s_cF, s_vF, s_appF, s_consA, s_nilA, List.getElem?_cons_zero, List.getElem?_cons_succ, Option.bind_some, fd32, eB, List.set_cons_succ, List.set_cons_zero, s_gt, decide_eq_false q1, Bool.false_eq_true, if_false, s_nxF]
  obtain ⟨B, hB, eB⟩ := hB
  obtain ⟨bl, _⟩ := bk_len hB
  have e1 := comp3G (ft := ttF) (f := tupF (consA (bind2 addX (vF 3) (vF 0)) (consA (bind2 addX (vF 3) (vF 1)) (consA (vF 2) nilA)))) (C := [.fr (.int b)]) (ι := fun u : T3 => .int u.1) (κ := fun u : T3 => .int u.2.1) (μ := fun u : T3 => .int u.2.2) (q := fun _ => true) (φ := fun u => tD (shT b u)) B.2 .no .no .no (fun _ _ => rfl) (fun u _ _ => by
    have hz3 : 3 ≤ sizeLine := szl (by omega)
    simp only [s_tupF, s_consA, s_nilA, s_vF, s_bind2, List.getElem?_cons_zero, List.getElem?_cons_succ, Option.bind_some, s_add, List.length_cons, List.length_nil, Nat.zero_add, Nat.reduceAdd, if_pos hz3]
    rfl)
  rw [List.filter_eq_self.mpr (fun _ _ => rfl)] at e1
  have e1 : compGo (tupG 3 (consG (nameG 0) (consG (nameG 1) (consG (nameG 2) nilG)))) ttF (tupF (consA (bind2 addX (vF 3) (vF 0)) (consA (bind2 addX (vF 3) (vF 1)) (consA (vF 2) nilA)))) (B.2.map tD) [.no, .no, .no, .fr (.int b)] = some (B.2.map fun u => tD (shT b u)) := e1
  have hzB : (B.2.map tD).length ≤ sizeLine := by rw [List.length_map]; exact szl (by omega)
  have hzT : turns.length + (B.2.map fun u => tD (shT b u)).length ≤ sizeLine := by rw [List.length_map]; exact szl (by omega)
  have hzD : due.length < sizeLine := small1000 (by omega)
  have hz2 : 2 ≤ sizeLine := szl (by omega)
  have hrr : some (rangeD (b : Int) ((b : Int) + m)) = some ((idx m).map fun i => .int ((b : Int) + i)) := by
    unfold rangeD idx
    rw [List.map_map, show ((b : Int) + m - b).toNat = m by omega]
    rfl
  have hr' : ∀ (t : List D) (s8 : Slot), rngN2 (consA (vF 5) (consA (bind2 addX (vF 5) (vF 7)) nilA)) [.fr (lD ns), num, .fr (.int n), .ol t, .ol due, .fr (.int b), .fr (.int z), .fr (.int m), s8] = some ((idx m).map fun i => .int ((b : Int) + i)) := fun t s8 => by
    have ea : consA (vF 5) (consA (bind2 addX (vF 5) (vF 7)) nilA) [.fr (lD ns), num, .fr (.int n), .ol t, .ol due, .fr (.int b), .fr (.int z), .fr (.int m), s8] = some [.int (b : Int), .int ((b : Int) + m)] := by
      simp only [s_consA, s_nilA, s_vF, s_bind2, List.getElem?_cons_zero, List.getElem?_cons_succ, Option.bind_some, s_add]
    rw [rng2_val ea (by omega) (by omega) (by omega) (by omega)]
    exact hrr
  refine ⟨m, B, .fr (.int z), .fr (.int m), .fr (.tup [.str (kT B.1), cD B.2]), m1, m2, hB, ?_⟩
  have e0 : asgF 6 (appF g_l_mix (consA (appF g_l_at (consA (vF 0) (consA (bind2 addX (cF (.int 1)) (vF 5)) nilA))) (consA (cF (.int 2)) nilA))) [.fr (lD ns), num, .fr (.int n), .ol turns, .ol due, .fr (.int b), s6, s7, s8] = some (.nx [.fr (lD ns), num, .fr (.int n), .ol turns, .ol due, .fr (.int b), .fr (.int z), s7, s8]) := by
    simp only [s_asgF, s_appF, s_consA, s_nilA, s_vF, s_bind2, s_cF, List.getElem?_cons_zero, List.getElem?_cons_succ, Option.bind_some, s_add, e1b, hc, hz, List.set_cons_succ, List.set_cons_zero]
  unfold bB
  rw [s_seqF, e0, Option.bind_some]
  dsimp only
  rw [em, eB]
  have x1 : mapLst (compF 3 [5] (seqItems (bind2 ixD (vF 8) (cF (.int 1)))) (tupG 3 (consG (nameG 0) (consG (nameG 1) (consG (nameG 2) nilG)))) ttF (tupF (consA (bind2 addX (vF 3) (vF 0)) (consA (bind2 addX (vF 3) (vF 1)) (consA (vF 2) nilA))))) [.fr (lD ns), num, .fr (.int n), .ol turns, .ol due, .fr (.int b), .fr (.int z), .fr (.int m), .fr (.tup [.str (kT B.1), cD B.2])] = some (.lst (B.2.map fun u => tD (shT b u))) := by
    simp only [s_mapLst, s_compF, s_seqItems, s_bind2, s_vF, s_cF, List.getElem?_cons_zero, List.getElem?_cons_succ, Option.bind_some, ix1, s_seqL, if_pos hzB, s_compS, s_capS, List.map_cons, List.map_nil, List.replicate, List.cons_append, List.nil_append, e1, Option.map_some]
  have x2 : extendF 3 (mapLst (compF 3 [5] (seqItems (bind2 ixD (vF 8) (cF (.int 1)))) (tupG 3 (consG (nameG 0) (consG (nameG 1) (consG (nameG 2) nilG)))) ttF (tupF (consA (bind2 addX (vF 3) (vF 0)) (consA (bind2 addX (vF 3) (vF 1)) (consA (vF 2) nilA)))))) [.fr (lD ns), num, .fr (.int n), .ol turns, .ol due, .fr (.int b), .fr (.int z), .fr (.int m), .fr (.tup [.str (kT B.1), cD B.2])] = some (.nx [.fr (lD ns), num, .fr (.int n), .ol (turns ++ B.2.map fun u => tD (shT b u)), .ol due, .fr (.int b), .fr (.int z), .fr (.int m), .fr (.tup [.str (kT B.1), cD B.2])]) := by
    rw [s_extendF, x1, Option.bind_some]
    exact if_pos hzT
  have x3 : tupF (consA (mapLst (rngN2 (consA (vF 5) (consA (bind2 addX (vF 5) (vF 7)) nilA)))) (consA (bind2 ixD (vF 8) (cF (.int 0))) nilA)) [.fr (lD ns), num, .fr (.int n), .ol (turns ++ B.2.map fun u => tD (shT b u)), .ol due, .fr (.int b), .fr (.int z), .fr (.int m), .fr (.tup [.str (kT B.1), cD B.2])] = some (dueD ((b : Int), (m, B))) := by
    rw [s_tupF, s_consA, s_mapLst, hr']
    simp only [Option.map_some, Option.bind_some, s_consA, s_nilA, s_bind2, s_vF, s_cF, List.getElem?_cons_zero, List.getElem?_cons_succ, ix0]
    exact if_pos hz2
  have x4 : appendF 4 (tupF (consA (mapLst (rngN2 (consA (vF 5) (consA (bind2 addX (vF 5) (vF 7)) nilA)))) (consA (bind2 ixD (vF 8) (cF (.int 0))) nilA))) [.fr (lD ns), num, .fr (.int n), .ol (turns ++ B.2.map fun u => tD (shT b u)), .ol due, .fr (.int b), .fr (.int z), .fr (.int m), .fr (.tup [.str (kT B.1), cD B.2])] = some (.nx [.fr (lD ns), num, .fr (.int n), .ol (turns ++ B.2.map fun u => tD (shT b u)), .ol (due ++ [dueD ((b : Int), (m, B))]), .fr (.int b), .fr (.int z), .fr (.int m), .fr (.tup [.str (kT B.1), cD B.2])]) := by
    rw [s_appendF, x3, Option.bind_some]
    exact if_pos hzD
  rw [s_seqF, x2, Option.bind_some]
  dsimp only
  rw [s_seqF, x4, Option.bind_some]
  dsimp only
  rw [s_asgF]
  simp only [s_bind2, s_vF, List.getElem?_cons_zero, List.getElem?_cons_succ, Option.bind_some, s_add, List.set_cons_succ, List.set_cons_zero]
  rw [List.map_map, show (b : Int) + m = ((b + m : Nat) : Int) by omega]
  rfl
theorem built_loop (ns : List Int) (num : Slot) (n : Nat) (hn : n ≤ 6) : ∀ (N r b : Nat) (turns due : List D) (s6 s7 s8 : Slot), b + r = n → r < N → turns.length ≤ 7 * b → due.length ≤ b →
    ∃ (bs : List Blk) (s6' s7' s8' : Slot), totM bs = r ∧ (∀ B ∈ bs, B.2 ∈ bksM B.1) ∧ whileF bC bB N [.fr (lD ns), num, .fr (.int n), .ol turns, .ol due, .fr (.int b), s6, s7, s8] =
      some (.nx [.fr (lD ns), num, .fr (.int n), .ol (turns ++ (btM b bs).map tD), .ol (due ++ (posM b bs).map dueD), .fr (.int n), s6', s7', s8'])
  | 0, r, b, turns, due, s6, s7, s8, h1, h2, h3, h4 => by omega
  | N + 1, r, b, turns, due, s6, s7, s8, h1, h2, h3, h4 => by
    have hc : bC [.fr (lD ns), num, .fr (.int n), .ol turns, .ol due, .fr (.int b), s6, s7, s8] = some (decide ((b : Int) < (n : Int))) := by
      simp only [bC, s_blF, s_bind2, s_vF, List.getElem?_cons_zero, List.getElem?_cons_succ, Option.bind_some, s_lt]
    by_cases e : r = 0
    · subst e
      have : b = n := by omega
      subst this
      refine ⟨[], s6, s7, s8, rfl, (fun B hB => nomatch hB), ?_⟩
      unfold whileF
      rw [hc, decide_eq_false (by omega)]
      simp [btM, posM]
    · obtain ⟨m, B, t6, t7, t8, m1, m2, hB, es⟩ := built_step ns num n b hn (by omega) turns due (by omega) (by omega) s6 s7 s8
      obtain ⟨bl, _⟩ := bk_len hB
      obtain ⟨bs, u6, u7, u8, hb, hg, ih⟩ := built_loop ns num n hn N (r - m) (b + m) (turns ++ (B.2.map (shT b)).map tD) (due ++ [dueD ((b : Int), (m, B))]) t6 t7 t8 (by omega) (by omega) (by rw [List.length_append, List.length_map, List.length_map]; omega) (by rw [List.length_append]; simp; omega)
      refine ⟨(m, B) :: bs, u6, u7, u8, by unfold totM; omega, fun C hC => (List.mem_cons.mp hC).elim (fun e => by rw [e]; exact hB) (hg C), ?_⟩
      unfold whileF
      rw [hc, decide_eq_true (by omega), Option.bind_some, if_pos rfl, es, Option.bind_some]
      dsimp only
      rw [ih]
      have b1 : btM b ((m, B) :: bs) = B.2.map (shT b) ++ btM ((b : Int) + (m : Int)) bs := rfl
      have p1 : posM b ((m, B) :: bs) = ((b : Int), (m, B)) :: posM ((b : Int) + (m : Int)) bs := rfl
      rw [b1, p1, List.map_append, List.append_assoc, List.map_cons, List.append_assoc, show ((b + m : Nat) : Int) = (b : Int) + (m : Int) by omega]
      rfl
theorem built_val (ns : List Int) : ∃ bs : List Blk, 1 ≤ totM bs ∧ totM bs ≤ 6 ∧ (∀ B ∈ bs, B.2 ∈ bksM B.1) ∧ g_l_built [lD ns] = some (.tup [.int (totM bs), cD (btM 0 bs), .lst ((posM 0 bs).map dueD)]) := by
  obtain ⟨c, hc⟩ := at_val ns 0 (by omega)
  obtain ⟨z, z0, z1, hz⟩ := mix_val c 1 (by omega)
  have hc : g_l_at [lD ns, .int 0] = some (.int c) := hc
  have hz : g_l_mix [.int c, .int 1] = some (.int z) := hz
  have md := modD_ok (i := z) (show (0 : Int) < 6 by decide)
  obtain ⟨n, hn⟩ : ∃ n : Nat, (n : Int) = 1 + z % 6 := ⟨(1 + z % 6).toNat, by omega⟩
  obtain ⟨bs, s6, s7, s8, hb, hg, hw⟩ := built_loop ns (.fr (.int z)) n (by omega) 100000 n 0 [] [] .no .no .no (by omega) (by omega) (by simp) (by simp)
  have hz0 : 0 ≤ sizeLine := Nat.zero_le _
  have hz3 : 3 ≤ sizeLine := szl (by omega)
  subst hb
  refine ⟨bs, by omega, by omega, hg, ?_⟩
  simp only [g_l_built, F_l_built, s_denF, s_startR, List.map_cons, List.map_nil, List.length_cons, List.length_nil, Nat.reduceAdd, Nat.reduceSub, List.replicate, List.cons_append, List.nil_append]
  rw [s_seqF, s_asgF]
  simp only [s_appF, s_consA, s_nilA, s_vF, s_cF, List.getElem?_cons_zero, List.getElem?_cons_succ, Option.bind_some, hc, hz, List.set_cons_succ, List.set_cons_zero]
  rw [s_seqF, s_asgF]
  simp only [s_bind2, s_vF, s_cF, List.getElem?_cons_zero, List.getElem?_cons_succ, Option.bind_some, md, s_add, List.set_cons_succ, List.set_cons_zero]
  rw [s_seqF, s_asgN]
  simp only [s_lstF, s_nilA, Option.bind_some, List.length_nil, if_pos hz0, List.set_cons_succ, List.set_cons_zero]
  rw [s_seqF, s_asgN]
  simp only [s_lstF, s_nilA, Option.bind_some, List.length_nil, if_pos hz0, List.set_cons_succ, List.set_cons_zero]
  rw [s_seqF, s_asgF]
  simp only [s_cF, Option.bind_some, List.set_cons_succ, List.set_cons_zero]
  rw [← hn, s_seqF]
  have hw : whileF bC bB 100000 [.fr (lD ns), .fr (.int z), .fr (.int (totM bs)), .ol [], .ol [], .fr (.int 0), .no, .no, .no] = _ := hw
  rw [hw, Option.bind_some]
  dsimp only
  simp only [s_frzF, s_frz, List.getElem?_cons_zero, List.getElem?_cons_succ, Option.bind_some, List.set_cons_succ, List.set_cons_zero, s_retF, s_tupF, s_consA, s_nilA, s_vF, List.length_cons, List.length_nil, Nat.zero_add, Nat.reduceAdd, if_pos hz3, List.nil_append, s_outR]
  rfl
def sg (ord : List Int) (i : Int) : Int := ord.getD i.toNat 0
theorem rl_of {n : Nat} {ord : List Int} (h : ord.Perm (idx n)) : Rl n (sg ord) := by
  have hl : ord.length = n := by rw [h.length_eq, len_idx]
  have hn : ord.Nodup := h.nodup_iff.mpr (nodup_idx n)
  have at_ : ∀ i : Int, 0 ≤ i → i < n → ∃ hi : i.toNat < ord.length, sg ord i = ord[i.toNat] := fun i h0 h1 => by
    have hi : i.toNat < ord.length := by omega
    exact ⟨hi, by unfold sg; rw [List.getD_eq_getElem?_getD, List.getElem?_eq_getElem hi]; rfl⟩
  refine ⟨fun i j hi hi' hj hj' e => ?_, fun i hi hi' => ?_, fun y hy hy' => ?_⟩
  · obtain ⟨q1, e1⟩ := at_ i hi hi'
    obtain ⟨q2, e2⟩ := at_ j hj hj'
    rw [e1, e2] at e
    have := (List.getElem_inj (h₀ := q1) (h₁ := q2) hn).mp e
    omega
  · obtain ⟨q1, e1⟩ := at_ i hi hi'
    rw [e1]
    exact mem_idx.mp (h.subset (List.getElem_mem q1))
  · have : y ∈ ord := h.symm.subset (mem_idx.mpr ⟨hy, hy'⟩)
    obtain ⟨k, hk, e⟩ := List.mem_iff_getElem.mp this
    obtain ⟨q1, e1⟩ := at_ (k : Int) (by omega) (by omega)
    refine ⟨k, by omega, by omega, ?_⟩
    rw [e1, ← e]
    rfl
theorem at_ord {n : Nat} {ord : List Int} (h : ord.Perm (idx n)) {i : Int} (h0 : 0 ≤ i) (h1 : i < n) : ixD (lD ord) (.int i) = some (.int (sg ord i)) := by
  have hl : ord.length = n := by rw [h.length_eq, len_idx]
  have hi : i.toNat < ord.length := by omega
  have := at_i ord i.toNat (ord[i.toNat]) (List.getElem?_eq_getElem hi)
  rw [show ((i.toNat : Nat) : Int) = i by omega] at this
  rw [this]
  unfold sg
  rw [List.getD_eq_getElem?_getD, List.getElem?_eq_getElem hi]
  rfl
theorem setI_val {i : Nat} {g f : FE} {ρ : Rho} {y : D} {ds : List D} {k : Int} (h1 : f ρ = some y) (h2 : g ρ = some (.int k)) (h3 : ρ[i]? = some (.ol ds)) (h4 : 0 ≤ k) (h5 : k < ds.length) : setIF i g f ρ = some (.nx (ρ.set i (.ol (ds.set k.toNat y)))) := by
  have e : ixN ds.length k = some k.toNat := by
    unfold ixN
    rw [if_pos (by omega)]
    simp [h5]
    try omega
  unfold setIF
  rw [h1, h2, h3]
  show (ixN ds.length k).bind _ = _
  rw [e]
  rfl
noncomputable abbrev oB : FS := seqF (asgF 6 (appF g_l_mix (consA (vF 5) (consA (cF (.int 3)) nilA)))) (seqF (asgF 7 (bind2 modD (vF 6) (vF 1))) (seqF (asgF 8 (bind2 modD (bind2 fdivD (vF 6) (cF (.int 8))) (vF 1))) (seqF (asgF 9 (bind2 ixD (vR 4) (vF 7))) (seqF (setIF 4 (vF 7) (bind2 ixD (vR 4) (vF 8))) (setIF 4 (vF 8) (vF 9))))))
theorem ord_step (n : Nat) (hn : 1 ≤ n) (a0 a2 a3 r0 r1 r2 r3 r4 : Slot) (c : Int) (ord : List Int) (h : ord.Perm (idx n)) (s6 s7 s8 s9 : Slot) :
    ∃ (ord' : List Int) (t6 t7 t8 t9 : Slot), ord'.Perm (idx n) ∧ oB [a0, .fr (.int n), a2, a3, .ol (ord.map D.int), .fr (.int c), s6, s7, s8, s9, r0, r1, r2, r3, r4] = some (.nx [a0, .fr (.int n), a2, a3, .ol (ord'.map D.int), .fr (.int c), t6, t7, t8, t9, r0, r1, r2, r3, r4]) := by
  obtain ⟨z, z0, z1, hz⟩ := mix_val c 3 (by omega)
  have hz : g_l_mix [.int c, .int 3] = some (.int z) := hz
  have hl : ord.length = n := by rw [h.length_eq, len_idx]
  have md1 := modD_ok (i := z) (show (0 : Int) < (n : Int) by omega)
  have fd := fdivD_ok (i := z) (show (0 : Int) < 8 by decide) (by decide)
  have md2 := modD_ok (i := z / 8) (show (0 : Int) < (n : Int) by omega)
  obtain ⟨i, hi⟩ : ∃ i, i = z % (n : Int) := ⟨_, rfl⟩
  obtain ⟨j, hj⟩ : ∃ j, j = z / 8 % (n : Int) := ⟨_, rfl⟩
  have i0 : 0 ≤ i := by rw [hi]; exact Int.emod_nonneg _ (by omega)
  have i1 : i < n := by rw [hi]; exact Int.emod_lt_of_pos _ (by omega)
  have j0 : 0 ≤ j := by rw [hj]; exact Int.emod_nonneg _ (by omega)
  have j1 : j < n := by rw [hj]; exact Int.emod_lt_of_pos _ (by omega)
  rw [← hi] at md1
  rw [← hj] at md2
  have ai := at_ord h i0 i1
  have aj := at_ord h j0 j1
  have hi' : i.toNat < ord.length := by omega
  have hj' : j.toNat < ord.length := by omega
  have si : sg ord i = ord[i.toNat] := by unfold sg; rw [List.getD_eq_getElem?_getD, List.getElem?_eq_getElem hi']; rfl
  have sj : sg ord j = ord[j.toNat] := by unfold sg; rw [List.getD_eq_getElem?_getD, List.getElem?_eq_getElem hj']; rfl
  refine ⟨(ord.set i.toNat (sg ord j)).set j.toNat (sg ord i), .fr (.int z), .fr (.int i), .fr (.int j), .fr (.int (sg ord i)), ?_, ?_⟩
  · rw [si, sj]
    exact (List.set_set_perm hi' hj').trans h
  have x1 : setIF 4 (vF 7) (bind2 ixD (vR 4) (vF 8)) [a0, .fr (.int n), a2, a3, .ol (ord.map D.int), .fr (.int c), .fr (.int z), .fr (.int i), .fr (.int j), .fr (.int (sg ord i)), r0, r1, r2, r3, r4] = some (.nx [a0, .fr (.int n), a2, a3, .ol ((ord.map D.int).set i.toNat (.int (sg ord j))), .fr (.int c), .fr (.int z), .fr (.int i), .fr (.int j), .fr (.int (sg ord i)), r0, r1, r2, r3, r4]) :=
    setI_val (y := .int (sg ord j)) (ds := ord.map D.int) (k := i) (by simp only [s_bind2, s_vR, s_vF, List.getElem?_cons_zero, List.getElem?_cons_succ, Option.bind_some]; exact aj) rfl rfl i0 (by rw [List.length_map]; omega)
  have x2 : setIF 4 (vF 8) (vF 9) [a0, .fr (.int n), a2, a3, .ol ((ord.map D.int).set i.toNat (.int (sg ord j))), .fr (.int c), .fr (.int z), .fr (.int i), .fr (.int j), .fr (.int (sg ord i)), r0, r1, r2, r3, r4] = some (.nx [a0, .fr (.int n), a2, a3, .ol (((ord.map D.int).set i.toNat (.int (sg ord j))).set j.toNat (.int (sg ord i))), .fr (.int c), .fr (.int z), .fr (.int i), .fr (.int j), .fr (.int (sg ord i)), r0, r1, r2, r3, r4]) :=
    setI_val (y := .int (sg ord i)) (k := j) rfl rfl rfl j0 (by rw [List.length_set, List.length_map]; omega)
  unfold oB
  rw [s_seqF, s_asgF]
  simp only [s_appF, s_consA, s_nilA, s_vF, s_cF, List.getElem?_cons_zero, List.getElem?_cons_succ, Option.bind_some, hz, List.set_cons_succ, List.set_cons_zero]
  rw [s_seqF, s_asgF]
  simp only [s_bind2, s_vF, List.getElem?_cons_zero, List.getElem?_cons_succ, Option.bind_some, md1, List.set_cons_succ, List.set_cons_zero]
  rw [s_seqF, s_asgF]
  simp only [s_bind2, s_vF, s_cF, List.getElem?_cons_zero, List.getElem?_cons_succ, Option.bind_some, fd, md2, List.set_cons_succ, List.set_cons_zero]
  rw [s_seqF, s_asgF]
  simp only [s_bind2, s_vF, s_vR, List.getElem?_cons_zero, List.getElem?_cons_succ, Option.bind_some, ai, List.set_cons_succ, List.set_cons_zero]
  rw [s_seqF, x1, Option.bind_some]
  dsimp only
  rw [x2, List.map_set, List.map_set]
theorem ord_loop (n : Nat) (hn : 1 ≤ n) (a0 a2 a3 r0 r1 r2 r3 r4 : Slot) : ∀ (cs : List Int) (ord : List Int) (s5 s6 s7 s8 s9 : Slot), ord.Perm (idx n) →
    ∃ (ord' : List Int) (t5 t6 t7 t8 t9 : Slot), ord'.Perm (idx n) ∧ loopF (nameG 5) oB (cs.map D.int) [a0, .fr (.int n), a2, a3, .ol (ord.map D.int), s5, s6, s7, s8, s9, r0, r1, r2, r3, r4] = some (.nx [a0, .fr (.int n), a2, a3, .ol (ord'.map D.int), t5, t6, t7, t8, t9, r0, r1, r2, r3, r4])
  | [], ord, s5, s6, s7, s8, s9, h => ⟨ord, s5, s6, s7, s8, s9, h, rfl⟩
  | c :: cs, ord, s5, s6, s7, s8, s9, h => by
    obtain ⟨o1, t6, t7, t8, t9, p1, e1⟩ := ord_step n hn a0 a2 a3 r0 r1 r2 r3 r4 c ord h s6 s7 s8 s9
    obtain ⟨o2, u5, u6, u7, u8, u9, p2, e2⟩ := ord_loop n hn a0 a2 a3 r0 r1 r2 r3 r4 cs o1 (.fr (.int c)) t6 t7 t8 t9 p1
    refine ⟨o2, u5, u6, u7, u8, u9, p2, ?_⟩
    rw [List.map_cons]
    unfold loopF
    rw [s_nameG, Option.bind_some]
    show (oB [a0, .fr (.int n), a2, a3, .ol (ord.map D.int), .fr (.int c), s6, s7, s8, s9, r0, r1, r2, r3, r4]).bind _ = _
    rw [e1]
    exact e2
abbrev pF : FS := appendF 10 (tupF (consA (appF minD (consA (bind2 ixD (vR 4) (vF 7)) (consA (bind2 ixD (vR 4) (vF 8)) nilA))) (consA (appF maxD (consA (bind2 ixD (vR 4) (vF 7)) (consA (bind2 ixD (vR 4) (vF 8)) nilA))) (consA (vF 11) nilA))))
theorem pair_loop (n : Nat) (ord : List Int) (h : ord.Perm (idx n)) (a0 a1 a2 a3 s5 s6 s9 r2 r3 r4 : Slot) : ∀ (us : List T3) (acc : List D) (s7 s8 s11 : Slot), Fits n us → acc.length + us.length ≤ 60 →
    ∃ t7 t8 t11, loopF (tupG 3 (consG (nameG 7) (consG (nameG 8) (consG (nameG 11) nilG)))) pF (us.map tD) [a0, a1, a2, a3, .ol (ord.map D.int), s5, s6, s7, s8, s9, .ol acc, s11, r2, r3, r4] =
      some (.nx [a0, a1, a2, a3, .ol (ord.map D.int), s5, s6, t7, t8, s9, .ol (acc ++ (us.map (rlT (sg ord))).map tD), t11, r2, r3, r4])
  | [], acc, s7, s8, s11, _, _ => ⟨s7, s8, s11, by simp [loopF]⟩
  | u :: us, acc, s7, s8, s11, hf, hl => by
    rw [List.length_cons] at hl
    obtain ⟨f1, f2, f3⟩ := hf u List.mem_cons_self
    have x1 := at_ord h f1 (by omega)
    have x2 := at_ord h (i := u.2.1) (by omega) f3
    have hz3 : 3 ≤ sizeLine := szl (by omega)
    have hz : acc.length < sizeLine := small1000 (by omega)
    obtain ⟨t7, t8, t11, ih⟩ := pair_loop n ord h a0 a1 a2 a3 s5 s6 s9 r2 r3 r4 us (acc ++ [tD (rlT (sg ord) u)]) (.fr (.int u.1)) (.fr (.int u.2.1)) (.fr (.int u.2.2)) (fun v hv => hf v (List.mem_cons_of_mem _ hv)) (by rw [List.length_append]; simp; omega)
    refine ⟨t7, t8, t11, ?_⟩
    rw [List.map_cons]
    unfold loopF
    have e0 : tupG 3 (consG (nameG 7) (consG (nameG 8) (consG (nameG 11) nilG))) (tD u) [a0, a1, a2, a3, .ol (ord.map D.int), s5, s6, s7, s8, s9, .ol acc, s11, r2, r3, r4] = some [a0, a1, a2, a3, .ol (ord.map D.int), s5, s6, .fr (.int u.1), .fr (.int u.2.1), s9, .ol acc, .fr (.int u.2.2), r2, r3, r4] := rfl
    have e1 : tupF (consA (appF minD (consA (bind2 ixD (vR 4) (vF 7)) (consA (bind2 ixD (vR 4) (vF 8)) nilA))) (consA (appF maxD (consA (bind2 ixD (vR 4) (vF 7)) (consA (bind2 ixD (vR 4) (vF 8)) nilA))) (consA (vF 11) nilA))) [a0, a1, a2, a3, .ol (ord.map D.int), s5, s6, .fr (.int u.1), .fr (.int u.2.1), s9, .ol acc, .fr (.int u.2.2), r2, r3, r4] = some (tD (rlT (sg ord) u)) := by
      simp only [s_tupF, s_consA, s_nilA, s_appF, s_bind2, s_vR, s_vF, List.getElem?_cons_zero, List.getElem?_cons_succ, Option.bind_some, x1, x2, s_min, s_max, List.length_cons, List.length_nil, Nat.zero_add, Nat.reduceAdd, if_pos hz3]
      rfl
    have e2 : pF [a0, a1, a2, a3, .ol (ord.map D.int), s5, s6, .fr (.int u.1), .fr (.int u.2.1), s9, .ol acc, .fr (.int u.2.2), r2, r3, r4] = some (.nx [a0, a1, a2, a3, .ol (ord.map D.int), s5, s6, .fr (.int u.1), .fr (.int u.2.1), s9, .ol (acc ++ [tD (rlT (sg ord) u)]), .fr (.int u.2.2), r2, r3, r4]) := by
      unfold pF
      rw [s_appendF, e1, Option.bind_some]
      exact if_pos hz
    rw [e0, Option.bind_some, e2, Option.bind_some]
    dsimp only
    rw [ih]
    simp
noncomputable abbrev fB : FS := frzF 4 (appendF 12 (tupF (consA (mapLst (sortN (consA (mapLst (compF 1 [4] (seqItems (vF 13)) (nameG 0) ttF (bind2 ixD (vF 1) (vF 0)))) nilA))) (consA (vF 14) nilA))))
theorem found_loop (bs : List Blk) (ord : List Int) (hs : Hs bs (sg ord)) (h : ord.Perm (idx (totM bs))) (h9 : totM bs ≤ 9) (a0 a1 a2 a3 s5 s6 s7 s8 s9 r0 r1 : Slot) : ∀ (ps : List (Int × Blk)) (acc : List D) (s4 s13 s14 : Slot), (∀ p ∈ ps, p ∈ posM 0 bs) → acc.length + ps.length ≤ 60 → (s4 = .ol (ord.map D.int) ∨ s4 = .fr (lD ord)) →
    ∃ t4 t13 t14, loopF (tupG 2 (consG (nameG 13) (consG (nameG 14) nilG))) fB (ps.map dueD) [a0, a1, a2, a3, s4, s5, s6, s7, s8, s9, r0, r1, .ol acc, s13, s14] =
      some (.nx [a0, a1, a2, a3, t4, s5, s6, s7, s8, s9, r0, r1, .ol (acc ++ (ps.map (rowP kT (sg ord))).map hrD), t13, t14])
  | [], acc, s4, s13, s14, _, _, _ => ⟨s4, s13, s14, by simp [loopF]⟩
  | p :: ps, acc, s4, s13, s14, hp, hl, h4 => by
    rw [List.length_cons] at hl
    have hpp := hp p List.mem_cons_self
    have hlo := pos_lo hpp
    obtain ⟨t4, t13, t14, ih⟩ := found_loop bs ord hs h h9 a0 a1 a2 a3 s5 s6 s7 s8 s9 r0 r1 ps (acc ++ [hrD (rowP kT (sg ord) p)]) (.fr (lD ord)) (.fr (.lst ((idx p.2.1).map fun i => .int (p.1 + i)))) (.fr (.str (kT p.2.2.1))) (fun q hq => hp q (List.mem_cons_of_mem _ hq)) (by rw [List.length_append]; simp; omega) (.inr rfl)
    refine ⟨t4, t13, t14, ?_⟩
    rw [List.map_cons]
    unfold loopF
    have e0 : tupG 2 (consG (nameG 13) (consG (nameG 14) nilG)) (dueD p) [a0, a1, a2, a3, s4, s5, s6, s7, s8, s9, r0, r1, .ol acc, s13, s14] = some [a0, a1, a2, a3, s4, s5, s6, s7, s8, s9, r0, r1, .ol acc, .fr (.lst ((idx p.2.1).map fun i => .int (p.1 + i))), .fr (.str (kT p.2.2.1))] := rfl
    have e1 := comp1M (f := bind2 ixD (vF 1) (vF 0)) (C := [.fr (lD ord)]) (ι := fun i : Int => D.int (p.1 + i)) (φ := fun i => .int (sg ord (p.1 + i))) (idx p.2.1) .no (fun i hi => by
      rw [mem_idx] at hi
      have := at_ord h (i := p.1 + i) (by omega) (by omega)
      simp only [s_bind2, s_vF, List.getElem?_cons_zero, List.getElem?_cons_succ, Option.bind_some]
      exact this)
    have hz : ((idx p.2.1).map fun i : Int => D.int (p.1 + i)).length ≤ sizeLine := by rw [List.length_map, len_idx]; exact szl (by omega)
    have hza : acc.length < sizeLine := small1000 (by omega)
    have hz2 : 2 ≤ sizeLine := szl (by omega)
    have hbl : (blkL (sg ord) p).length < 64 := by unfold blkL; rw [List.length_map, len_idx]; omega
    have e2 : sortN (consA (mapLst (compF 1 [4] (seqItems (vF 13)) (nameG 0) ttF (bind2 ixD (vF 1) (vF 0)))) nilA) [a0, a1, a2, a3, .fr (lD ord), s5, s6, s7, s8, s9, r0, r1, .ol acc, .fr (.lst ((idx p.2.1).map fun i => .int (p.1 + i))), .fr (.str (kT p.2.2.1))] = some ((sortI (blkL (sg ord) p)).map D.int) := by
      refine sort_val ?_ hbl
      simp only [s_consA, s_nilA, s_mapLst, s_compF, s_seqItems, s_vF, List.getElem?_cons_zero, List.getElem?_cons_succ, Option.bind_some, s_seqL, if_pos hz, s_compS, s_capS, List.map_cons, List.map_nil, List.replicate, List.cons_append, List.nil_append, e1, Option.map_some]
      unfold blkL
      show _ = some [D.lst ((List.map _ _).map D.int)]
      rw [List.map_map]
      rfl
    obtain ⟨x, r, er, _⟩ := hs.head hpp
    have e3 : tupF (consA (mapLst (sortN (consA (mapLst (compF 1 [4] (seqItems (vF 13)) (nameG 0) ttF (bind2 ixD (vF 1) (vF 0)))) nilA))) (consA (vF 14) nilA)) [a0, a1, a2, a3, .fr (lD ord), s5, s6, s7, s8, s9, r0, r1, .ol acc, .fr (.lst ((idx p.2.1).map fun i => .int (p.1 + i))), .fr (.str (kT p.2.2.1))] = some (hrD (rowP kT (sg ord) p)) := by
      unfold rowP
      rw [hrD_row (by rw [er]; simp), s_tupF, s_consA, s_mapLst, e2]
      simp only [Option.map_some, Option.bind_some, s_consA, s_nilA, s_vF, List.getElem?_cons_zero, List.getElem?_cons_succ]
      exact if_pos hz2
    have e4 : fB [a0, a1, a2, a3, s4, s5, s6, s7, s8, s9, r0, r1, .ol acc, .fr (.lst ((idx p.2.1).map fun i => .int (p.1 + i))), .fr (.str (kT p.2.2.1))] = some (.nx [a0, a1, a2, a3, .fr (lD ord), s5, s6, s7, s8, s9, r0, r1, .ol (acc ++ [hrD (rowP kT (sg ord) p)]), .fr (.lst ((idx p.2.1).map fun i => .int (p.1 + i))), .fr (.str (kT p.2.2.1))]) := by
      have ef : frz 4 [a0, a1, a2, a3, s4, s5, s6, s7, s8, s9, r0, r1, .ol acc, .fr (.lst ((idx p.2.1).map fun i => .int (p.1 + i))), .fr (.str (kT p.2.2.1))] = some [a0, a1, a2, a3, .fr (lD ord), s5, s6, s7, s8, s9, r0, r1, .ol acc, .fr (.lst ((idx p.2.1).map fun i => .int (p.1 + i))), .fr (.str (kT p.2.2.1))] := by
        rcases h4 with rfl | rfl <;> rfl
      unfold fB
      rw [s_frzF, ef, Option.bind_some, s_appendF, e3, Option.bind_some]
      exact if_pos hza
    rw [e0, Option.bind_some, e4, Option.bind_some]
    dsimp only
    rw [ih]
    simp
theorem bt_len : ∀ {bs : List Blk} {b : Int}, (∀ B ∈ bs, B.2 ∈ bksM B.1) → (btM b bs).length ≤ 7 * totM bs ∧ (posM b bs).length ≤ totM bs
  | [], b, _ => ⟨Nat.le_refl _, Nat.le_refl _⟩
  | B :: bs, b, h => by
    obtain ⟨h1, h2⟩ := bt_len (bs := bs) (b := b + B.1) fun C hC => h C (List.mem_cons_of_mem _ hC)
    have hB := h B List.mem_cons_self
    obtain ⟨bl, _⟩ := bk_len hB
    have : 0 < B.1 := by
      cases e : B.1 with
      | zero => rw [e] at hB; cases hB
      | succ n => omega
    unfold btM posM totM
    rw [List.length_append, List.length_map, List.length_cons]
    omega
theorem cut_ints (ns : List Int) (a b : Option Int) : cutL (ns.map D.int) a b = (cutL ns a b).map D.int := by
  unfold cutL
  rw [List.length_map, List.map_take, List.map_drop]
theorem mixed_val (ns : List Int) : ∃ (bs : List Blk) (ord : List Int), 1 ≤ totM bs ∧ totM bs ≤ 6 ∧ Hs bs (sg ord) ∧ (tsM bs (sg ord)).length ≤ 42 ∧ ((posM 0 bs).map (rowP kT (sg ord))).length ≤ 6 ∧
    g_l_mixed [lD ns] = some (.tup [houseD (totM bs) (tsM bs (sg ord)), .lst ((sortH ((posM 0 bs).map (rowP kT (sg ord)))).map hrD)]) := by
  obtain ⟨bs, h1, h6, hg, hb⟩ := built_val ns
  obtain ⟨hl1, hl2⟩ := bt_len (b := 0) hg
  have hr1 : (if -(2 ^ 62) ≤ (totM bs : Int) ∧ (totM bs : Int) ≤ 1000000 then some (rangeD 0 (totM bs : Int)) else none) = some ((idx (totM bs)).map D.int) := by rw [if_pos (by omega), range_idx]
  obtain ⟨ord, t5, t6, t7, t8, t9, hp, e1⟩ := ord_loop (totM bs) h1 (.fr (lD ns)) (.fr (cD (btM 0 bs))) (.fr (.lst ((posM 0 bs).map dueD))) .no .no .no .no .no (cutL ns (some 7) (some 64)) (idx (totM bs)) .no .no .no .no .no (.refl _)
  have hs : Hs bs (sg ord) := ⟨hg, rl_of hp⟩
  obtain ⟨u7, u8, u11, e2⟩ := pair_loop (totM bs) ord hp (.fr (lD ns)) (.fr (.int (totM bs))) (.fr (cD (btM 0 bs))) (.fr (.lst ((posM 0 bs).map dueD))) t5 t6 t9 .no .no .no (btM 0 bs) [] t7 t8 .no (fits_bt hs.fits) (by simp; omega)
  obtain ⟨v4, v13, v14, e3⟩ := found_loop bs ord hs hp (by omega) (.fr (lD ns)) (.fr (.int (totM bs))) (.fr (cD (btM 0 bs))) (.fr (.lst ((posM 0 bs).map dueD))) t5 t6 u7 u8 t9 (.ol ([] ++ ((btM 0 bs).map (rlT (sg ord))).map tD)) u11 (posM 0 bs) [] (.ol (ord.map D.int)) .no .no (fun p hp => hp) (by simp; omega) (.inl rfl)
  refine ⟨bs, ord, h1, h6, hs, by unfold tsM; rw [List.length_map]; omega, by rw [List.length_map]; omega, ?_⟩
  have hz0 : 0 ≤ sizeLine := Nat.zero_le _
  have hz2 : 2 ≤ sizeLine := szl (by omega)
  have hz3 : 3 = 3 := rfl
  have start : g_l_mixed [lD ns] = outD (F_l_mixed [.fr (lD ns), .no, .no, .no, .no, .no, .no, .no, .no, .no, .no, .no, .no, .no, .no]) := rfl
  rw [start]
  unfold F_l_mixed
  rw [s_seqF, s_asgG]
  simp only [s_appF, s_consA, s_nilA, s_vF, List.getElem?_cons_zero, List.getElem?_cons_succ, Option.bind_some, hb, s_tupG, List.length_cons, List.length_nil, Nat.zero_add, Nat.reduceAdd, if_true, s_consG, s_nameG, s_nilG, List.set_cons_succ, List.set_cons_zero]
  have a1 : rngN1 (consA (vF 1) nilA) [.fr (lD ns), .fr (.int (totM bs)), .fr (cD (btM 0 bs)), .fr (.lst ((posM 0 bs).map dueD)), .no, .no, .no, .no, .no, .no, .no, .no, .no, .no, .no] = some ((idx (totM bs)).map D.int) := by
    simp only [rngN1, s_consA, s_nilA, s_vF, List.getElem?_cons_zero, List.getElem?_cons_succ, Option.bind_some, hr1]
  rw [s_seqF, s_asgN, a1]
  simp only [Option.bind_some, List.set_cons_succ, List.set_cons_zero]
  rw [s_seqF, s_forF]
  simp only [s_seqItems, s_sliceF, s_vF, s_exP, s_cF, List.getElem?_cons_zero, List.getElem?_cons_succ, Option.bind_some, s_seqL]
  rw [cut_ints, e1, Option.bind_some]
  dsimp only
  rw [s_seqF, s_asgN]
  simp only [s_lstF, s_nilA, Option.bind_some, List.length_nil, if_pos hz0, List.set_cons_succ, List.set_cons_zero]
  rw [s_seqF, s_forF]
  simp only [s_seqItems, s_vF, List.getElem?_cons_zero, List.getElem?_cons_succ, Option.bind_some, s_seqL]
  rw [e2, Option.bind_some]
  dsimp only
  rw [s_seqF, s_asgN]
  simp only [s_lstF, s_nilA, Option.bind_some, List.length_nil, if_pos hz0, List.set_cons_succ, List.set_cons_zero]
  rw [s_seqF, s_forF]
  simp only [s_seqItems, s_vF, List.getElem?_cons_zero, List.getElem?_cons_succ, Option.bind_some, s_seqL]
  rw [e3, Option.bind_some]
  dsimp only
  rw [s_frzF, s_frz]
  simp only [List.getElem?_cons_zero, List.getElem?_cons_succ, Option.bind_some, List.set_cons_succ, List.set_cons_zero, List.nil_append]
  have e4 := s_sortHN (fa := consA (vR 12) nilA) (ρ := [.fr (lD ns), .fr (.int (totM bs)), .fr (cD (btM 0 bs)), .fr (.lst ((posM 0 bs).map dueD)), v4, t5, t6, u7, u8, t9, .fr (.lst (((btM 0 bs).map (rlT (sg ord))).map tD)), u11, .ol (((posM 0 bs).map (rowP kT (sg ord))).map hrD), v13, v14]) (rs := (posM 0 bs).map (rowP kT (sg ord))) rfl (by rw [List.length_map]; omega) (hs.due_asc kT)
  rw [s_retF, s_tupF, s_consA, s_tupF]
  simp only [s_consA, s_nilA, s_vF, List.getElem?_cons_zero, List.getElem?_cons_succ, Option.bind_some, List.length_cons, List.length_nil, Nat.zero_add, Nat.reduceAdd, if_pos hz2, s_mapLst, e4, Option.map_some, s_outR]
  rfl
theorem whole_val (i : Int) : g_l_whole [.int i] = some (.bl true) := by simp [g_l_whole, F_l_whole, subTy, tyN]
theorem dep_row (r : HR) : dep (hrD r) ≤ 100 := by
  have h1 := dep_hl (r.1.1 :: r.1.2)
  unfold hrD
  unfold dep
  have : depL [D.lst ((r.1.1 :: r.1.2).map D.int), .str r.2] ≤ 1 := depL_le fun d hd => by
    rcases List.mem_cons.mp hd with rfl | hd
    · exact h1
    · rcases List.mem_cons.mp hd with rfl | hd
      · exact Nat.zero_le _
      · cases hd
  omega
theorem ne_row (r : HR) : neF (hrD r) (hrD r) = some (.bl false) := by
  unfold neF
  rw [if_pos (dep_row r), eqD_refl]
  rfl
theorem whole_loop (a b c d : Slot) : ∀ (l : List Int) (s4 : Slot), ∃ t4, loopF (nameG 4) (ifS (notT (blF (appF g_l_whole (consA (vF 4) nilA)))) (retF (cF (.bl false))) nxF) (l.map D.int) [a, b, c, d, s4] = some (.nx [a, b, c, d, t4])
  | [], s4 => ⟨s4, rfl⟩
  | x :: l, s4 => by
    obtain ⟨t4, ih⟩ := whole_loop a b c d l (.fr (.int x))
    refine ⟨t4, ?_⟩
    rw [List.map_cons]
    unfold loopF
    simp only [s_nameG, Option.bind_some, List.set_cons_succ, List.set_cons_zero, s_ifS, s_notT, s_blF, s_appF, s_consA, s_nilA, s_vF, List.getElem?_cons_zero, List.getElem?_cons_succ, whole_val, Bool.not_true, Bool.false_eq_true, if_false, s_nxF]
    exact ih
noncomputable abbrev sB : FS := seqF (ifS (orT (notT (blF (bind1 (isTy "tuple") (vF 2)))) (orT (blF (bind2 neF (vF 2) (vF 3))) (orT (notT (blF (bind1 (isTy "list") (bind2 ixD (vF 2) (cF (.int 0)))))) (notT (blF (bind1 (isTy "str") (bind2 ixD (vF 2) (cF (.int 1))))))))) (retF (cF (.bl false))) nxF) (forF (seqItems (bind2 ixD (vF 2) (cF (.int 0)))) (nameG 4) (ifS (notT (blF (appF g_l_whole (consA (vF 4) nilA)))) (retF (cF (.bl false))) nxF))
theorem same_loop (a b : Slot) : ∀ (R : List HR) (s2 s3 s4 : Slot), ∃ t2 t3 t4, loopF (tupG 2 (consG (nameG 2) (consG (nameG 3) nilG))) sB (R.map fun r => .tup [hrD r, hrD r]) [a, b, s2, s3, s4] = some (.nx [a, b, t2, t3, t4])
  | [], s2, s3, s4 => ⟨s2, s3, s4, rfl⟩
  | r :: R, s2, s3, s4 => by
    obtain ⟨w4, hw⟩ := whole_loop a b (.fr (hrD r)) (.fr (hrD r)) (r.1.1 :: r.1.2) s4
    obtain ⟨t2, t3, t4, ih⟩ := same_loop a b R (.fr (hrD r)) (.fr (hrD r)) w4
    refine ⟨t2, t3, t4, ?_⟩
    rw [List.map_cons]
    unfold loopF
    have e0 : tupG 2 (consG (nameG 2) (consG (nameG 3) nilG)) (.tup [hrD r, hrD r]) [a, b, s2, s3, s4] = some [a, b, .fr (hrD r), .fr (hrD r), s4] := rfl
    have i0 : ixD (hrD r) (.int 0) = some (.lst ((r.1.1 :: r.1.2).map D.int)) := ix0
    have i1 : ixD (hrD r) (.int 1) = some (.str r.2) := ix1
    have ty : subTy (tyN (hrD r)) "tuple" = true := by unfold hrD; simp [subTy, tyN]
    have tl : subTy (tyN (.lst ((r.1.1 :: r.1.2).map D.int))) "list" = true := by simp [subTy, tyN]
    have tt : subTy (tyN (.str r.2)) "str" = true := by simp [subTy, tyN]
    have e1 : sB [a, b, .fr (hrD r), .fr (hrD r), s4] = some (.nx [a, b, .fr (hrD r), .fr (hrD r), w4]) := by
      unfold sB
      rw [s_seqF, s_ifS]
      simp only [s_orT, s_notT, s_blF, s_bind1, s_bind2, s_vF, s_cF, List.getElem?_cons_zero, List.getElem?_cons_succ, Option.bind_some, s_isTy, ty, Bool.not_true, Bool.false_eq_true, if_false, ne_row, i0, tl, i1, tt, s_nxF, s_forF, s_seqItems, s_seqL, hw]
    rw [e0, Option.bind_some, e1, Option.bind_some]
    dsimp only
    exact ih
theorem same_val (R : List HR) : g_l_same [.lst (R.map hrD), .lst (R.map hrD)] = some (.bl true) := by
  obtain ⟨t2, t3, t4, h⟩ := same_loop (.fr (.lst (R.map hrD))) (.fr (.lst (R.map hrD))) R .no .no .no
  have ty : subTy (tyN (.lst (R.map hrD))) "list" = true := by simp [subTy, tyN]
  have ez : zipD (R.map hrD) (R.map hrD) = R.map fun r => .tup [hrD r, hrD r] := by
    unfold zipD
    rw [List.zip_map', List.map_map]
    rfl
  have start : g_l_same [.lst (R.map hrD), .lst (R.map hrD)] = outD (F_l_same [.fr (.lst (R.map hrD)), .fr (.lst (R.map hrD)), .no, .no, .no]) := rfl
  rw [start]
  unfold F_l_same
  rw [s_seqF, s_ifS]
  simp only [s_orT, s_notT, s_blF, s_bind1, s_bind2, s_vF, s_appF, s_consA, s_nilA, List.getElem?_cons_zero, List.getElem?_cons_succ, Option.bind_some, s_isTy, ty, Bool.not_true, Bool.false_eq_true, if_false, s_lenL, s_nei, decide_true, s_nxF, s_seqF, s_forF, s_itemsZ, s_seqItems, s_seqL, ez]
  rw [h]
  rfl
theorem dep_house (n : Nat) (ts : List T3) : dep (houseD n ts) ≤ 100 := by
  have h1 : depL (ts.map tD) ≤ 1 := depL_le fun d hd => by
    obtain ⟨u, _, rfl⟩ := List.mem_map.mp hd
    simp [tD, dep, depL]
  have h2 : dep (.lst (ts.map tD)) ≤ 2 := by unfold dep; omega
  have h3 : depL [.int (n : Int), .lst (ts.map tD)] ≤ 2 := depL_le fun d hd => by
    rcases List.mem_cons.mp hd with rfl | hd
    · exact Nat.zero_le _
    · rcases List.mem_cons.mp hd with rfl | hd
      · exact h2
      · cases hd
  unfold houseD dep
  omega
theorem law_true (ns : List Int) (hl : ns.length ≤ 63) : g_law [.lst (ns.map D.int)] = some (.bl true) := by
  obtain ⟨bs, ord, h1, h6, hs, ht, hr, hm⟩ := mixed_val ns
  have hk := kinds_val hs (by omega) (by omega)
  have hsame := same_val (sortH ((posM 0 bs).map (rowP kT (sg ord))))
  have hq : eqF (houseD (totM bs) (tsM bs (sg ord))) (houseD (totM bs) (tsM bs (sg ord))) = some (.bl true) := by
    unfold eqF
    rw [if_pos (dep_house _ _), eqD_refl]
  have hz2 : 2 ≤ sizeLine := szl (by omega)
  have i0 : ixD (houseD (totM bs) (tsM bs (sg ord))) (.int 0) = some (.int (totM bs)) := by unfold houseD; exact ix0
  have i1 : ixD (houseD (totM bs) (tsM bs (sg ord))) (.int 1) = some (cD (tsM bs (sg ord))) := by unfold houseD; exact ix1
  have gl : GL (.lst (ns.map D.int)) := by
    refine ⟨houseD (totM bs) (tsM bs (sg ord)), (totM bs : Int), tsM bs (sg ord), sortH ((posM 0 bs).map (rowP kT (sg ord))), ?_, hk, ?_, ?_, fun r hr => ?_, hsame, ?_⟩
    · unfold F_0 F_1
      rw [s_seqF, s_asgG]
      simp only [s_appF, s_consA, s_nilA, s_vF, List.getElem?_cons_zero, List.getElem?_cons_succ, Option.bind_some, hm, s_tupG, List.length_cons, List.length_nil, Nat.zero_add, Nat.reduceAdd, if_true, s_consG, s_nameG, s_nilG, List.set_cons_succ, List.set_cons_zero, s_asgF, s_tupF, s_bind2, s_cF, i0, s_mapLst, s_listN, i1, Option.map_some, if_pos hz2]
    · intro z
      have := (sortH_perm ((posM 0 bs).map (rowP kT (sg ord)))).length_eq
      rw [z, List.length_map] at this
      cases bs with
      | nil => simp [totM] at h1
      | cons B bs => simp [posM] at this
    · rw [(sortH_perm _).length_eq]
      exact small1000 (by omega)
    · obtain ⟨p, hp, rfl⟩ := List.mem_map.mp ((sortH_perm _).subset hr)
      have hlo := pos_lo hp
      have : (sortI (blkL (sg ord) p)).length ≤ 6 := by
        rw [(sortI_perm _).length_eq]
        unfold blkL
        rw [List.length_map, len_idx]
        omega
      have h3 : (rowP kT (sg ord) p).1.2.length ≤ 6 := by
        show (sortI (blkL (sg ord) p)).tail.length ≤ 6
        rw [List.length_tail]
        omega
      exact small1000 (by omega)
    · have hk' : g_kinds [.tup [.int (totM bs : Int), .lst ((tsM bs (sg ord)).map tD)]] = _ := hk
      have hq' : eqF (.tup [.int (totM bs : Int), .lst ((tsM bs (sg ord)).map tD)]) (houseD (totM bs) (tsM bs (sg ord))) = some (.bl true) := hq
      unfold F_t
      simp only [s_retF, s_andV, s_appF, s_consA, s_nilA, s_vF, s_bind2, List.getElem?_cons_zero, List.getElem?_cons_succ, Option.bind_some, hk', hsame, if_true, hq']
  show @ite _ (GL (.lst (ns.map D.int))) (Classical.propDecidable _) (some (D.bl true)) none = _
  rw [if_pos gl]
end Pk61
open PySem PySem.W PyProof.Rows FL L2 in
set_option maxRecDepth 100000 in
set_option maxHeartbeats 0 in
theorem PySem.Challenge.cw_mirrorhouse_k61_kinds_holds : PySem.Challenge.rw_mirrorhouse_k61_kinds.Holds := by
  w_on; refine holds_law (by kernel_rfl) fun said => ?_; k_head; (case hw => w_witness2)
  k_fill
  refine L2.walk_ofK (l := PySem.Challenge.rw_mirrorhouse_k61_kinds) (n := 63) (k := 8) (x := "_law_script") (CX := CX0) (sp := fun K => FL.spF K 1 Pk61.g_law) rfl (by decide) rfl ⟨rfl, by decide, by decide⟩ (fun w h Y => PySem.W.kIn_of Y) ?F (fun K H a ns hl _ hS => FL.law_sp hS (Pk61.law_true ns hl)) (fun _ _ _ _ z => z)
  case F =>
    intro w mg fa h KX G hmg
    refine' Pk61.all_mk KX G hmg ?a0 ?l0 ?c0 ?k0 ?a1 ?l1 ?c1 ?k1 ?a2 ?l2 ?c2 ?k2 ?a3 ?l3 ?c3 ?k3 ?a4 ?l4 ?c4 ?k4 ?a5 ?l5 ?c5 ?k5 ?a6 ?l6 ?c6 ?k6 ?a7 ?l7 ?c7 ?k7 ?a8 ?l8 ?c8 ?k8 ?a9 ?l9 ?c9 ?k9 ?a10 ?l10 ?c10 ?k10 ?a11 ?l11 ?c11 ?k11 ?a12 ?l12 ?c12 ?k12 ?a13 ?l13 ?c13 ?k13 ?a14 ?l14 ?c14 ?k14 ?a15 ?l15 ?c15 ?k15 ?a16 ?l16 ?c16 ?k16 ?a17 ?l17 ?c17 ?k17 ?a18 ?l18 ?c18 ?k18 ?a19 ?l19 ?c19 ?k19 ?a20 ?l20 ?c20 ?k20 ?a21 ?l21 ?c21 ?k21 ?a22 ?l22 ?c22 ?k22 ?a23 ?l23 ?c23 ?k23 ?a24 ?l24 ?c24 ?k24 ?b_all ?b_bool ?b_enumerate ?b_int ?b_isinstance ?b_len ?b_list ?b_max ?b_min ?b_range ?b_sorted ?b_str ?b_tuple ?b_zip ?q_COMMON_TURN ?q_NOT_TOLD ?q_NO_KIND ?q_RARE_CHAINS ?r_RARE_CHAINS ?r_RARE_CHAINS_0 ?r_RARE_CHAINS_1 ?r_RARE_CHAINS_2 ?r_RARE_CHAINS_3 ?r_RARE_CHAINS_4 ?kr_y_RARE_CHAINS ?kr_z_RARE_CHAINS_0 ?kr_z_RARE_CHAINS_1 ?kr_z_RARE_CHAINS_2 ?kr_z_RARE_CHAINS_3 ?kr_z_RARE_CHAINS_4 ?knl
    (case a0 => k_is)
    (case l0 => k_is)
    (case c0 => k_is)
    (case k0 => k_is)
    (case a1 => k_is)
    (case l1 => k_is)
    (case c1 => k_is)
    (case k1 => k_is)
    (case a2 => k_is)
    (case l2 => k_is)
    (case c2 => k_is)
    (case k2 => k_is)
    (case a3 => k_is)
    (case l3 => k_is)
    (case c3 => k_is)
    (case k3 => k_is)
    (case a4 => k_is)
    (case l4 => k_is)
    (case c4 => k_is)
    (case k4 => k_is)
    (case a5 => k_is)
    (case l5 => k_is)
    (case c5 => k_is)
    (case k5 => k_is)
    (case a6 => k_is)
    (case l6 => k_is)
    (case c6 => k_is)
    (case k6 => k_is)
    (case a7 => k_is)
    (case l7 => k_is)
    (case c7 => k_is)
    (case k7 => k_is)
    (case a8 => k_is)
    (case l8 => k_is)
    (case c8 => k_is)
    (case k8 => k_is)
    (case a9 => k_is)
    (case l9 => k_is)
    (case c9 => k_is)
    (case k9 => k_is)
    (case a10 => k_is)
    (case l10 => k_is)
    (case c10 => k_is)
    (case k10 => k_is)
    (case a11 => k_is)
    (case l11 => k_is)
    (case c11 => k_is)
    (case k11 => k_is)
    (case a12 => k_is)
    (case l12 => k_is)
    (case c12 => k_is)
    (case k12 => k_is)
    (case a13 => k_is)
    (case l13 => k_is)
    (case c13 => k_is)
    (case k13 => k_is)
    (case a14 => k_is)
    (case l14 => k_is)
    (case c14 => k_is)
    (case k14 => k_is)
    (case a15 => k_is)
    (case l15 => k_is)
    (case c15 => k_is)
    (case k15 => k_is)
    (case a16 => k_is)
    (case l16 => k_is)
    (case c16 => k_is)
    (case k16 => k_is)
    (case a17 => k_is)
    (case l17 => k_is)
    (case c17 => k_is)
    (case k17 => k_is)
    (case a18 => k_is)
    (case l18 => k_is)
    (case c18 => k_is)
    (case k18 => k_is)
    (case a19 => k_is)
    (case l19 => k_is)
    (case c19 => k_is)
    (case k19 => k_is)
    (case a20 => k_is)
    (case l20 => k_is)
    (case c20 => k_is)
    (case k20 => k_is)
    (case a21 => k_is)
    (case l21 => k_is)
    (case c21 => k_is)
    (case k21 => k_is)
    (case a22 => k_is)
    (case l22 => k_is)
    (case c22 => k_is)
    (case k22 => k_is)
    (case a23 => k_is)
    (case l23 => k_is)
    (case c23 => k_is)
    (case k23 => k_is)
    (case a24 => k_is)
    (case l24 => k_is)
    (case c24 => k_is)
    (case k24 => k_is)
    (case b_all => k_is)
    (case b_bool => k_is)
    (case b_enumerate => k_is)
    (case b_int => k_is)
    (case b_isinstance => k_is)
    (case b_len => k_is)
    (case b_list => k_is)
    (case b_max => k_is)
    (case b_min => k_is)
    (case b_range => k_is)
    (case b_sorted => k_is)
    (case b_str => k_is)
    (case b_tuple => k_is)
    (case b_zip => k_is)
    (case q_COMMON_TURN => k_is)
    (case q_NOT_TOLD => k_is)
    (case q_NO_KIND => k_is)
    (case q_RARE_CHAINS => k_is)
    (case r_RARE_CHAINS => k_is)
    (case r_RARE_CHAINS_0 => k_is)
    (case r_RARE_CHAINS_1 => k_is)
    (case r_RARE_CHAINS_2 => k_is)
    (case r_RARE_CHAINS_3 => k_is)
    (case r_RARE_CHAINS_4 => k_is)
    (case kr_y_RARE_CHAINS => kernel_rfl)
    (case kr_z_RARE_CHAINS_0 => kernel_rfl)
    (case kr_z_RARE_CHAINS_1 => kernel_rfl)
    (case kr_z_RARE_CHAINS_2 => kernel_rfl)
    (case kr_z_RARE_CHAINS_3 => kernel_rfl)
    (case kr_z_RARE_CHAINS_4 => kernel_rfl)
    (case knl => kernel_rfl)
