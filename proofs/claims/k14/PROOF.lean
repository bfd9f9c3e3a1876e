import PyProof.Rows.All
import Wide.All
import OpenK.AllK
import Wide.FinOn
import PyProof.EqAt
import PyProof.EqKinds
import PyProof.TupleCall
import PyProof.ListMulAny
import KE.KIsAll
import Lean
import PySem.Challenge.RW_mirrorhouse_k14_whole_any_house_text
set_option Elab.async false
set_option linter.all false
set_option maxRecDepth 100000
namespace L2
open PySem PySem.Spec PyProof.Rows
abbrev Key := Sum Int Str
def keyIs : Key → Value → Bool
  | .inl k, v => Value.isInt k v
  | .inr x, v => Value.isStrOf x v
def keyH (w : World) : Key → Int
  | .inl k => hashInt k
  | .inr x => hashStr w x
theorem keyIs_shape : ∀ {k : Key} {v : Value}, keyIs k v = true → (∃ i t, k = Sum.inl i ∧ v = Value.int i t) ∨ (∃ x t, k = Sum.inr x ∧ v = Value.str x t)
  | .inl i, v, h => by
    obtain ⟨t, e⟩ := Value.isInt_shape (k := i) (v := v) h
    exact .inl ⟨i, t, rfl, e⟩
  | .inr x, v, h => by
    obtain ⟨t, e⟩ := Value.isStrOf_shape (x := x) (v := v) h
    exact .inr ⟨x, t, rfl, e⟩
theorem keyIs_int (i : Int) (t : Tok) : keyIs (.inl i) (.int i t) = true := by simp [keyIs, Value.isInt]
theorem keyIs_str (x : Str) (t : Tok) : keyIs (.inr x) (.str x t) = true := by simp [keyIs, Value.isStrOf]
theorem key_ll (a b : Int) : decide ((Sum.inl a : Key) = Sum.inl b) = (a == b) := by
  by_cases e : a = b
  · subst e; simp
  · have h : ¬ (Sum.inl a : Key) = Sum.inl b := fun q => e (Sum.inl.inj q)
    rw [decide_eq_false h]
    exact (beq_eq_false_iff_ne.mpr e).symm
theorem key_rr (a b : Str) : decide ((Sum.inr a : Key) = Sum.inr b) = decide (a = b) := by
  by_cases e : a = b
  · subst e; simp
  · have h : ¬ (Sum.inr a : Key) = Sum.inr b := fun q => e (Sum.inr.inj q)
    rw [decide_eq_false h, decide_eq_false e]
theorem key_lr (a : Int) (b : Str) : decide ((Sum.inl a : Key) = Sum.inr b) = false := decide_eq_false (fun q => nomatch q)
theorem key_rl (a : Str) (b : Int) : decide ((Sum.inr a : Key) = Sum.inl b) = false := decide_eq_false (fun q => nomatch q)
def mixKind (prog : Program) (w : World) : PySem.KeyKind prog w Key where
  is := keyIs
  hash := keyH w
  inj := fun v a b ha hb => by
    rcases keyIs_shape ha with ⟨i, t, rfl, rfl⟩ | ⟨x, t, rfl, rfl⟩
    · rcases keyIs_shape hb with ⟨j, u, rfl, e⟩ | ⟨y, u, rfl, e⟩
      · injection e with e1 _; rw [e1]
      · exact nomatch e
    · rcases keyIs_shape hb with ⟨j, u, rfl, e⟩ | ⟨y, u, rfl, e⟩
      · exact nomatch e
      · injection e with e1 _; rw [e1]
  byValue := fun k v h => by
    rcases keyIs_shape h with ⟨i, t, rfl, rfl⟩ | ⟨x, t, rfl, rfl⟩ <;> rfl
  pyHash := fun hv h => by
    rcases keyIs_shape hv with ⟨i, t, rfl, rfl⟩ | ⟨x, t, rfl, rfl⟩
    · exact wpAny_pyHash_int h
    · exact wpAny_pyHash_str h
  eqBool := fun hu hv h => by
    rcases keyIs_shape hu with ⟨i, t, rfl, rfl⟩ | ⟨x, t, rfl, rfl⟩
    · rcases keyIs_shape hv with ⟨j, u, rfl, rfl⟩ | ⟨y, u, rfl, rfl⟩
      · rw [key_ll] at h; exact wpAny_eqBool_int h
      · rw [key_lr] at h; exact SeqAt.EqAt.int_str i t y u _ _ _ _ h
    · rcases keyIs_shape hv with ⟨j, u, rfl, rfl⟩ | ⟨y, u, rfl, rfl⟩
      · rw [key_rl] at h; exact SeqAt.EqAt.str_int x t j u _ _ _ _ h
      · rw [key_rr] at h; exact wpAny_eqBool_str h
  «strs» := fun k x t v h => by
    rcases keyIs_shape h with ⟨i, u, rfl, e⟩ | ⟨y, u, rfl, e⟩
    · exact nomatch e
    · injection e with e1 _
      subst e1
      cases v <;> rfl
theorem mixKind_int (prog : Program) (w : World) (i : Int) (t : Tok) : (mixKind prog w).is (.inl i) (.int i t) = true := keyIs_int i t
theorem mixKind_str (prog : Program) (w : World) (x : Str) (t : Tok) : (mixKind prog w).is (.inr x) (.str x t) = true := keyIs_str x t
end L2
namespace L2
open PySem PySem.Spec PyProof.Rows
inductive V where
  | non | bl (b : Bool) | int (i : Int) | str (x : Str) | byt (b : Array UInt8) | flt (b : UInt64) | ref (a : Addr) | ty (n : String)
  deriving DecidableEq
def RelV : V → Value → Prop
  | .non, u => u = Value.none
  | .bl b, u => u = Value.bool b
  | .int i, u => ∃ t, u = Value.int i t
  | .str x, u => ∃ t, u = Value.str x t
  | .byt b, u => ∃ t, u = Value.bytes b t
  | .flt b, u => ∃ t, u = Value.float b t
  | .ref a, u => u = Value.ref a
  | .ty n, u => u = Value.type n
abbrev Vals : List V → List Value → Prop := Paired RelV
theorem Vals.length {xs : List V} {us : List Value} (r : Vals xs us) : xs.length = us.length := Paired.length r
theorem Vals.get : ∀ {xs : List V} {us : List Value} {i : Nat} {x : V}, Vals xs us → xs[i]? = some x → ∃ u, us[i]? = some u ∧ RelV x u
  | _, _, _, _, .nil, e => by simp at e
  | _, _, 0, _, .cons r _, e => by simp at e; subst e; exact ⟨_, rfl, r⟩
  | _, _, i + 1, x, .cons _ t, e => by
    obtain ⟨u, h1, h2⟩ := Vals.get (i := i) (x := x) t (by simpa using e)
    exact ⟨u, by simpa using h1, h2⟩
theorem Vals.set {x : V} {u : Value} (r : RelV x u) : ∀ {xs : List V} {us : List Value} (i : Nat), Vals xs us → Vals (xs.set i x) (us.set i u)
  | _, _, _, .nil => .nil
  | _, _, 0, .cons _ t => .cons r t
  | _, _, i + 1, .cons q t => .cons q (Vals.set r i t)
theorem Vals.append : ∀ {xs ys : List V} {us ws : List Value}, Vals xs us → Vals ys ws → Vals (xs ++ ys) (us ++ ws)
  | _, _, _, _, .nil, s => s
  | _, _, _, _, .cons r t, s => .cons r (Vals.append t s)
theorem Vals.take : ∀ {xs : List V} {us : List Value} (n : Nat), Vals xs us → Vals (xs.take n) (us.take n)
  | _, _, 0, _ => .nil
  | _, _, _ + 1, .nil => .nil
  | _, _, n + 1, .cons r t => .cons r (Vals.take n t)
theorem Vals.drop : ∀ {xs : List V} {us : List Value} (n : Nat), Vals xs us → Vals (xs.drop n) (us.drop n)
  | _, _, 0, r => r
  | _, _, _ + 1, .nil => .nil
  | _, _, n + 1, .cons _ t => Vals.drop n t
def RelO : Option V → Option Value → Prop
  | some v, some u => RelV v u
  | none, none => True
  | _, _ => False
def KV {κ : Type} : List (κ × V) → List (κ × Value) → Prop := Paired fun (p : κ × V) (q : κ × Value) => p.1 = q.1 ∧ RelV p.2 q.2
def kV : Key → V
  | .inl i => .int i
  | .inr x => .str x
inductive HO where
  /-- a list -/
  | lst (xs : List V)
  /-- a tuple (never changes) -/
  | tup (xs : List V)
  /-- a dict whose keys are ints and texts; one whose keys are tuples of ints and texts (the empty one is both) -/
  | dK (kvs : List (Key × V)) | dT (kvs : List (List Key × V))
  /-- a set of ints: its members, its size -/
  | set (S : Int → Bool) (n : Nat)
  /-- an instance of the class at C, its dict at dx, its attributes -/
  | ins (C dx : Addr) (fs : List (Str × V))
  /-- the dict of the instance at x -/
  | own (x : Addr)
  /-- the dict of an exception -/
  | xd (fs : List (Str × V))
  /-- a bound method, f of x -/
  | met (f x : Addr)
  /-- a range object lo, lo + 1, .. below hi -/
  | rng (lo hi : Int)
  /-- a thing that is known to the object (the script; a dict while a loop walks it): read, never written while it is so -/
  | frz (o : Obj) (u : HO)
  /-- a code object's table -/
  | tbl (ps : Array Value)
  /-- any other thing, by what is true of its one object (a def of one's own: SetO a S n := HO.ext fun h => ..) -/
  | ext (φ : Heap → Prop)
abbrev Hp := Addr → Option HO
def upd (H : Hp) (a : Addr) (o : HO) : Hp := fun b => if b = a then some o else H b
theorem upd_same {H : Hp} {a : Addr} {o : HO} : upd H a o a = some o := by unfold upd; rw [if_pos rfl]
theorem upd_ne {H : Hp} {a b : Addr} {o : HO} (h : b ≠ a) : upd H a o b = H b := by unfold upd; rw [if_neg h]
theorem ne_of {H : Hp} {a b : Addr} {o u : HO} (h : H a = some o) (h' : H b = some u) (d : o ≠ u) : a ≠ b := by
  intro e; subst e; rw [h] at h'; exact d (Option.some.inj h')
theorem ne_of_none {H : Hp} {a b : Addr} {o : HO} (h : H a = some o) (h' : H b = none) : a ≠ b := by
  intro e; subst e; rw [h] at h'; cases h'
section
variable (P : Program) (w : World)
def ObjOk (H : Hp) (h : Heap) (a : Addr) : HO → Prop
  | .lst xs => xs.length ≤ sizeLine ∧ ∃ (its : List Value) (n : Nat), Vals xs its ∧ h.get? a = some { cls := .type "list", data := .seq its.toArray n }
  | .tup xs => xs.length ≤ sizeLine ∧ ∃ its : List Value, Vals xs its ∧ IsTup h a its.toArray
  | .dK kvs => kvs.length ≤ sizeLine ∧ (a == sysModules) = false ∧ ∃ vs, KV kvs vs ∧ h.DictOf (mixKind P w) a vs
  | .dT kvs => kvs.length ≤ sizeLine ∧ (a == sysModules) = false ∧ ∃ xs : List (List Key × Addr × Value),
      Paired (fun (p : List Key × V) (q : List Key × Addr × Value) => p.1 = q.1 ∧ H q.2.1 = some (.tup (p.1.map kV)) ∧ RelV p.2 q.2.2) kvs xs ∧
      ∃ o es ep, h.get? a = some o ∧ o.ExactDict ∧ o.data = .dict es ep ∧ es.toList = xs.map (entryOfKey (tupleKind (mixKind P w))) ∧ (xs.map (·.1)).Nodup
  | .set S n => h.SetOf (intKind P w) a S n
  | .ins C dx fs => H dx = some (.own a) ∧ fs.length ≤ 1000 ∧ dx ≠ a ∧ h.get? a = some (PySem.W.instObj C dx) ∧
      ∃ mA, h.Ns1 dx mA ∧ (∀ f, RelO (fs.lookup f) (mA f)) ∧ PySem.Within mA (fs.map (·.1))
  | .own _ => ∃ o, h.get? a = some o
  | .xd fs => ∃ mA, h.Ns1 a mA ∧ ∀ f, RelO (fs.lookup f) (mA f)
  | .rng lo hi => ∃ t u v, h.get? a = some { cls := .type "range", data := .fields #[.int lo t, .int hi u, .int 1 v] }
  | .frz o u => h.get? a = some o ∧ ObjOk H h a u
  | .tbl ps => h.get? a = some { cls := .none, data := .fields ps }
  | .met f x => h.get? a = some (PySem.W.methodObj (.ref f) (.ref x))
  | .ext φ => φ h ∧ (∃ o, h.get? a = some o) ∧ ∀ h1 h2 : Heap, φ h1 → (∀ o, h1.get? a = some o → h2.get? a = some o) → φ h2
def HOk (H : Hp) (h : Heap) : Prop := ∀ a o, H a = some o → ObjOk P w H h a o
end
section
variable {P : Program} {w : World} {H H' : Hp} {h h' : Heap} {a : Addr} {o : HO}
theorem ObjOk.lt (x : ObjOk P w H h a o) : a < h.objs.size := by
  cases o with
  | lst xs => obtain ⟨_, _, _, _, e⟩ := x; exact Heap.lt_size e
  | tup xs => obtain ⟨_, _, _, p⟩ := x; exact p.lt
  | dK kvs => obtain ⟨_, _, _, _, o, _, _, e, _⟩ := x; exact Heap.lt_size e
  | dT kvs => obtain ⟨_, _, _, _, o, _, _, e, _⟩ := x; exact Heap.lt_size e
  | set S n => obtain ⟨o, _, _, _, e, _⟩ := x; exact Heap.lt_size e
  | ins C dx fs => obtain ⟨_, _, _, e, _⟩ := x; exact Heap.lt_size e
  | own y => obtain ⟨_, e⟩ := x; exact Heap.lt_size e
  | xd fs => obtain ⟨_, ⟨_, _, _, e, _⟩, _⟩ := x; exact Heap.lt_size e
  | rng lo hi => obtain ⟨_, _, _, e⟩ := x; exact Heap.lt_size e
  | frz ob u => obtain ⟨e, _⟩ := x; exact Heap.lt_size e
  | tbl ps => exact Heap.lt_size (show h.get? a = some _ from x)
  | met f y => exact Heap.lt_size (show h.get? a = some _ from x)
  | ext φ => obtain ⟨_, ⟨_, e⟩, _⟩ := x; exact Heap.lt_size e
theorem Paired.mapP {α β : Type} {F G : α → β → Prop} : ∀ {l₁ : List α} {l₂ : List β}, Paired F l₁ l₂ → (∀ a b, F a b → G a b) → Paired G l₁ l₂
  | _, _, .nil, _ => .nil
  | _, _, .cons r t, f => .cons (f _ _ r) (Paired.mapP t f)
theorem ObjOk.stay (x : ObjOk P w H h a o) (k : ∀ b u, (b = a ∨ H b = some (.own a)) → h.get? b = some u → h'.get? b = some u)
    (ho : ∀ b, H b = some (.own a) → H' b = some (.own a)) (ht : ∀ b xs, H b = some (.tup xs) → H' b = some (.tup xs)) : ObjOk P w H' h' a o := by
  induction o with
  | lst xs => obtain ⟨z, its, n, r, e⟩ := x; exact ⟨z, its, n, r, k _ _ (.inl rfl) e⟩
  | tup xs => obtain ⟨z, its, r, ob, e, c⟩ := x; exact ⟨z, its, r, ob, k _ _ (.inl rfl) e, c⟩
  | dK kvs => obtain ⟨z, y, vs, r, ob, es, ep, e, c⟩ := x; exact ⟨z, y, vs, r, ob, es, ep, k _ _ (.inl rfl) e, c⟩
  | dT kvs =>
    obtain ⟨z, y, xs, r, ob, es, ep, e, c⟩ := x
    exact ⟨z, y, xs, Paired.mapP r fun p q z => ⟨z.1, ht _ _ z.2.1, z.2.2⟩, ob, es, ep, k _ _ (.inl rfl) e, c⟩
  | set S n => obtain ⟨ob, es, ep, t, e, c⟩ := x; exact ⟨ob, es, ep, t, k _ _ (.inl rfl) e, c⟩
  | ins C dx fs =>
    obtain ⟨d, z, ne, e, mA, ⟨od, es, ep, e2, c⟩, r⟩ := x
    exact ⟨ho _ d, z, ne, k _ _ (.inl rfl) e, mA, ⟨od, es, ep, k _ _ (.inr d) e2, c⟩, r⟩
  | own y => obtain ⟨ob, e⟩ := x; exact ⟨ob, k _ _ (.inl rfl) e⟩
  | xd fs => obtain ⟨mA, ⟨od, es, ep, e, c⟩, r⟩ := x; exact ⟨mA, ⟨od, es, ep, k _ _ (.inl rfl) e, c⟩, r⟩
  | rng lo hi => obtain ⟨t, u, v, e⟩ := x; exact ⟨t, u, v, k _ _ (.inl rfl) e⟩
  | frz ob u ih => obtain ⟨e, q⟩ := x; exact ⟨k _ _ (.inl rfl) e, ih q⟩
  | tbl ps =>
    have e : h.get? a = some { cls := .none, data := .fields ps } := x
    show h'.get? a = some { cls := .none, data := .fields ps }
    exact k a _ (.inl rfl) e
  | met f y =>
    have e : h.get? a = some (PySem.W.methodObj (.ref f) (.ref y)) := x
    show h'.get? a = some (PySem.W.methodObj (.ref f) (.ref y))
    exact k a _ (.inl rfl) e
  | ext φ => obtain ⟨p, ⟨o, e⟩, st⟩ := x; exact ⟨st _ _ p fun o q => k _ _ (.inl rfl) q, ⟨o, k _ _ (.inl rfl) e⟩, st⟩
theorem HOk.lt (x : HOk P w H h) (e : H a = some o) : a < h.objs.size := (x a o e).lt
theorem HOk.fresh (x : HOk P w H h) (e : h.objs.size ≤ a) : H a = none := by
  cases q : H a with
  | none => rfl
  | some u => exact absurd (Nat.lt_of_lt_of_le (x.lt q) e) (Nat.lt_irrefl _)
theorem HOk.kept (x : HOk P w H h) (k : ∀ b u, h.get? b = some u → h'.get? b = some u) : HOk P w H h' := fun a o e =>
  (x a o e).stay (fun b u _ q => k b u q) (fun _ q => q) fun _ _ q => q
theorem HOk.laid (x : HOk P w H h) (k : ∀ b u, h.get? b = some u → h'.get? b = some u) (hp : h.objs.size ≤ a) (new : ObjOk P w (upd H a o) h' a o) : HOk P w (upd H a o) h' := fun b u e => by
  have hn := x.fresh hp
  by_cases hb : b = a
  · subst hb; rw [upd_same] at e; cases e; exact new
  · rw [upd_ne hb] at e
    exact (x b u e).stay (fun c v _ q => k c v q) (fun c q => by rw [upd_ne (ne_of_none q hn)]; exact q) fun c xs q => by rw [upd_ne (ne_of_none q hn)]; exact q
end
def Rd (H : Hp) (a : Addr) (u : HO) : Prop := H a = some u ∨ ∃ o, H a = some (.frz o u)
theorem Rd.ok {P : Program} {w : World} {H : Hp} {h : Heap} {a : Addr} {u : HO} (r : Rd H a u) (x : HOk P w H h) : ObjOk P w H h a u := by
  rcases r with r | ⟨o, r⟩
  · exact x a u r
  · obtain ⟨_, q⟩ := x a _ r
    exact q
def Mut : Option HO → Prop
  | some (.lst _) => True
  | some (.dK _) => True
  | some (.dT _) => True
  | some (.set _ _) => True
  | some (.ins _ _ _) => True
  | some (.ext _) => True
  | _ => False
section
variable {P : Program} {w : World} {H : Hp} {h h' : Heap} {x e : Addr} {o' : HO}
theorem HOk.write (ok : HOk P w H h) (mu : Mut (H x)) (he : e = x ∨ H e = some (.own x)) (k : ∀ b u, b ≠ e → h.get? b = some u → h'.get? b = some u) (heo : ∃ u, h'.get? e = some u)
    (new : ObjOk P w (upd H x o') h' x o') : HOk P w (upd H x o') h' := fun b u q => by
  have nown : ∀ c y, H c = some (.own y) → c ≠ x := fun c y r z => by subst z; rw [r] at mu; exact mu
  have ntup : ∀ c xs, H c = some (.tup xs) → c ≠ x := fun c xs r z => by subst z; rw [r] at mu; exact mu
  by_cases hb : b = x
  · subst hb; rw [upd_same] at q; cases q; exact new
  · rw [upd_ne hb] at q
    by_cases hbe : b = e
    · have q' : H b = some (.own x) := by
        rcases he with z | z
        · exact absurd (hbe.trans z) hb
        · rw [hbe]; exact z
      rw [q] at q'; cases q'
      obtain ⟨v, hv⟩ := heo
      exact ⟨v, by rw [hbe]; exact hv⟩
    · refine (ok b u q).stay (fun c v hc r => k c v ?_ r) (fun c r => by rw [upd_ne (nown c b r)]; exact r) fun c xs r => by rw [upd_ne (ntup c xs r)]; exact r
      rcases hc with rfl | hc
      · exact hbe
      · rintro rfl
        rcases he with z | z
        · exact nown c b hc z
        · rw [hc] at z; cases z; exact hb rfl
end
structure Un (fs ex : List Addr) (H H' : Hp) (h h' : Heap) : Prop where
  keep : ∀ b o, h.get? b = some o → H b = none → b ∉ fs → b ∉ ex → h'.get? b = some o
  slot : ∀ b o, h.get? b = some o → H b = none → b ∈ fs → b ∉ ex → ∃ sl, h'.get? b = some { o with slots := sl }
  free : ∀ b o, h.get? b = some o → H b = none → b ∉ ex → H' b = none
  there : ∀ b o, h.get? b = some o → b ∉ ex → ∃ o', h'.get? b = some o'
  tups : ∀ b xs, H b = some (.tup xs) → H' b = some (.tup xs)
  frzs : ∀ b o u, H b = some (.frz o u) → H' b = some (.frz o u)
  tbls : ∀ b ps, H b = some (.tbl ps) → ∃ more, H' b = some (.tbl (ps ++ more))
section
variable {fs fs' ex ex' : List Addr} {H H1 H2 : Hp} {h h1 h2 h' : Heap} {a x e : Addr} {o : HO}
theorem Un.any (u : Un fs ex H H1 h h1) {b : Addr} {ob : Obj} (q : h.get? b = some ob) (n : H b = none) (hx : b ∉ ex) : ∃ sl, h1.get? b = some { ob with slots := sl } := by
  by_cases hb : b ∈ fs
  · exact u.slot b ob q n hb hx
  · exact ⟨ob.slots, u.keep b ob q n hb hx⟩
theorem Un.kept (k : ∀ b u, h.get? b = some u → h'.get? b = some u) : Un fs ex H H h h' :=
  ⟨fun b ob q _ _ _ => k b ob q, fun b ob q _ _ _ => ⟨ob.slots, k b ob q⟩, fun _ _ _ n _ => n, fun b ob q _ => ⟨ob, k b ob q⟩, fun _ _ q => q, fun _ _ _ q => q, fun _ ps q => ⟨#[], by rw [q]; simp⟩⟩
theorem Un.refl : Un fs ex H H h h := Un.kept fun _ _ q => q
theorem Un.laid (k : ∀ b u, h.get? b = some u → h'.get? b = some u) (hp : h.objs.size ≤ a) (hn : H a = none) : Un fs ex H (upd H a o) h h' where
  keep := fun b u q _ _ _ => k b u q
  slot := fun b u q _ _ _ => ⟨u.slots, k b u q⟩
  free := fun b u q n _ => by rw [upd_ne (Nat.ne_of_lt (Nat.lt_of_lt_of_le (Heap.lt_size q) hp))]; exact n
  there := fun b u q _ => ⟨u, k b u q⟩
  tups := fun b xs q => by rw [upd_ne (ne_of_none q hn)]; exact q
  frzs := fun b u xs q => by rw [upd_ne (ne_of_none q hn)]; exact q
  tbls := fun b ps q => ⟨#[], by rw [upd_ne (ne_of_none q hn), q]; simp⟩
theorem Un.write (mu : Mut (H x)) (he : e = x ∨ H e = some (.own x)) (k : ∀ b u, b ≠ e → h.get? b = some u → h'.get? b = some u) (heo : ∃ u, h'.get? e = some u) : Un fs ex H (upd H x o) h h' := by
  have hx : ∀ b, H b = none → b ≠ x := fun b n z => by subst z; rw [n] at mu; exact mu
  have hb : ∀ b, H b = none → b ≠ e := fun b n z => by
    subst z
    rcases he with r | r
    · exact hx b n r
    · rw [n] at r; cases r
  have hm : ∀ b u, H b = some u → ¬ Mut (some u) → b ≠ x := fun b u q nm z => by subst z; rw [q] at mu; exact nm mu
  refine ⟨fun b u q n _ _ => k b u (hb b n) q, fun b u q n _ _ => ⟨u.slots, k b u (hb b n) q⟩, fun b u q n _ => by rw [upd_ne (hx b n)]; exact n, fun b u q _ => ?_,
    fun b xs q => by rw [upd_ne (hm b _ q fun z => z)]; exact q, fun b u xs q => by rw [upd_ne (hm b _ q fun z => z)]; exact q, fun b ps q => ⟨#[], by rw [upd_ne (hm b _ q fun z => z), q]; simp⟩⟩
  by_cases hbe : b = e
  · subst hbe; exact heo
  · exact ⟨u, k b u hbe q⟩
end
def trk (h : Heap) (H : Hp) : List Addr := (List.range h.objs.size).filter fun a => (H a).isSome
def hidT (h : Heap) (H : Hp) : Heap := PySem.W.hideAll h (trk h H)
theorem hidT_size (h : Heap) (H : Hp) : (hidT h H).objs.size = h.objs.size := PySem.W.hideAll_size _ _
theorem hidT_get {h : Heap} {H : Hp} {b : Addr} {o : Obj} (e : h.get? b = some o) (n : H b = none) : (hidT h H).get? b = some o :=
  PySem.W.hideAll_get _ e fun hm => by
    have q : (H b).isSome = true := (List.mem_filter.mp hm).2
    rw [n] at q; simp at q
theorem of_hidT {h : Heap} {H : Hp} {b : Addr} {o : Obj} (e : (hidT h H).get? b = some o) : h.get? b = some o ∧ H b = none := by
  have e' : h.get? b = some o := PySem.W.of_hideAll (trk h H) e
  refine ⟨e', ?_⟩
  cases q : H b with
  | none => rfl
  | some x =>
    have hm : b ∈ trk h H := List.mem_filter.mpr ⟨List.mem_range.mpr (Heap.lt_size e'), by simp [q]⟩
    have z : (hidT h H).get? b = none := PySem.W.hideAll_none (trk h H) hm
    rw [z] at e; cases e
def allNews (g h : Heap) (L : Addr) : List (Addr × Obj) := (List.range h.objs.size).filterMap fun a => if a = L ∨ (g.get? a).isSome = true then none else (h.get? a).map fun o => (a, o)
def rest (g h : Heap) (L d : Addr) : List (Addr × Obj) := (allNews g h L).filter fun p => decide (p.1 ≠ d)
end L2
namespace L2
open PySem PySem.Spec PyProof.Rows
structure Mod (K : PySem.W.Frag) (mg : Str → Option Value) (base : Heap) : Prop where
  kin : K.In base
  glob : base.Ns mainGlobals mg
  blt : ∃ mb, base.Ns builtinsNs mb ∧ ∀ x : Str, x ≠ "__name__" → mb x = bootBuiltins x
  nolimit : base.NoLimit
structure Cx where
  prog : Program
  w : World
  K : PySem.W.Frag
  mg : Str → Option Value
  base : Heap
  A : Around
  N : List Str
  s₀ : Shared
  H₀ : Hp
  env : Env
  outer : List Env
  stack : List Env
  ex : List Addr
  fn : Str → Bool
  calm : Bool
  pn : List (Addr × Obj)
  xe : Value → Shared → Prop
def frs (l : List Env) : List Addr := l.filterMap (·.frame)
abbrev Cx.fs (X : Cx) : List Addr := frs X.outer
def Vis (sc : Scope) (x : Str) : Prop := sc.names.lookup x = some .local ∨ sc.names.lookup x = some .cell ∨ sc.names.lookup x = some .free
def Loc (sc : Scope) (x : Str) : Prop := sc.names.lookup x = some .local ∨ sc.names.lookup x = some .cell
def Look (env : Env) (h : Heap) (m : Str → Option Value) (x : Str) (u : Value) : Prop :=
  (env.kindOf x = some .local ∧ m x = some u) ∨ ((env.kindOf x = some .cell ∨ env.kindOf x = some .free) ∧ ∃ c, env.cells.lookup x = some c ∧ h.IsCell c (some u))
structure Cx.Ok (X : Cx) : Prop where
  mod : Mod X.K X.mg X.base
  kind : X.env.scope.kind = .function
  glob : X.env.globals = mainGlobals
  blt : X.env.builtins = builtinsNs
  above : X.s₀.heap.objs.size ≤ X.env.locals
  inj : ∀ x y c, X.env.cells.lookup x = some c → X.env.cells.lookup y = some c → x = y
  has : ∀ x, (X.env.kindOf x = some .cell ∨ X.env.kindOf x = some .free) → ∃ c, X.env.cells.lookup x = some c
  cab : ∀ x c, X.fn x = true → X.env.cells.lookup x = some c → X.s₀.heap.objs.size ≤ c
  hd : X.calm = true → X.A.handled = none
  frames : X.A.frames = some X.stack
  stk : X.stack = X.outer ∨ (X.stack = X.env :: X.outer ∧ X.env.frame = some X.env.locals)
  exf : ∀ b ∈ X.ex, b ≠ X.env.locals ∧ ∀ x c, X.env.cells.lookup x = some c → c ≠ b
  bs : ∀ b o, X.base.get? b = some o → X.s₀.heap.get? b = some o ∧ X.H₀ b = none
  bsz : X.base.objs.size ≤ X.s₀.heap.objs.size
  noex : ∀ b o, X.base.get? b = some o → b ∉ X.ex
  exfs : ∀ b ∈ X.ex, b ∉ X.fs
  funs : X.s₀.heap.FunFrames X.base X.outer
  frf : ∀ b ∈ X.fs, X.H₀ b = none
structure Inv (X : Cx) (pins : List (Addr × Obj)) (σ : List (Option V)) (H : Hp) (s : Shared) : Prop where
  ok : X.Ok
  os : s.os = X.s₀.os
  bare : AllBare s.gens
  base : Un X.fs X.ex X.H₀ H X.s₀.heap s.heap
  loc : ∃ m, s.heap.Ns X.env.locals m ∧ ∀ (i : Nat) (x : Str) (v : V), X.N[i]? = some x → σ[i]? = some (some v) → Vis X.env.scope x → ∃ u, RelV v u ∧ Look X.env s.heap m x u
  cell : ∀ x c, X.env.cells.lookup x = some c → ∃ v, s.heap.IsCell c v
  free : H X.env.locals = none
  freeC : ∀ x c, X.env.cells.lookup x = some c → H c = none
  pin : ∀ p ∈ X.pn ++ pins, s.heap.get? p.1 = some p.2 ∧ H p.1 = none ∧ p.1 ≠ X.env.locals ∧ p.1 ∉ X.fs ∧ ∀ v, p.2.data ≠ .cell v
  hok : HOk X.prog X.w H s.heap
  len : σ.length = X.N.length
section
variable {X : Cx} {pins : List (Addr × Obj)} {σ : List (Option V)} {H H' : Hp} {s : Shared} {h' : Heap}
theorem Cx.Ok.nofr (ok : X.Ok) {b : Addr} {o : Obj} (e : X.base.get? b = some o) : b ∉ X.fs := fun hb => by
  have := (ok.funs.mem hb).1
  rw [e] at this; cases this
theorem Inv.bs (I : Inv X pins σ H s) : ∀ b o, X.base.get? b = some o → s.heap.get? b = some o ∧ H b = none := fun b o e =>
  ⟨I.base.keep b o (I.ok.bs b o e).1 (I.ok.bs b o e).2 (I.ok.nofr e) (I.ok.noex b o e), I.base.free b o (I.ok.bs b o e).1 (I.ok.bs b o e).2 (I.ok.noex b o e)⟩
theorem Inv.bk (I : Inv X pins σ H s) : ∀ b o, X.base.get? b = some o → s.heap.get? b = some o := fun b o e => (I.bs b o e).1
theorem Inv.mod (I : Inv X pins σ H s) : Mod X.K X.mg X.base := I.ok.mod
theorem Inv.kIn (I : Inv X pins σ H s) : X.K.In s.heap := I.ok.mod.kin.keeps I.bk
theorem Inv.lt (I : Inv X pins σ H s) : X.env.locals < s.heap.objs.size := let ⟨_, hn, _⟩ := I.loc; hn.lt
theorem Inv.sz (I : Inv X pins σ H s) : X.s₀.heap.objs.size ≤ s.heap.objs.size := Nat.le_trans I.ok.above (Nat.le_of_lt I.lt)
theorem Inv.nofs (I : Inv X pins σ H s) {a : Addr} (h : s.heap.objs.size ≤ a) : a ∉ X.fs := fun hb => by
  obtain ⟨_, o, ho, _⟩ := I.ok.funs.mem hb
  exact absurd (Nat.lt_of_lt_of_le (Heap.lt_size ho) (Nat.le_trans I.sz h)) (Nat.lt_irrefl _)
theorem Inv.cne (I : Inv X pins σ H s) : ∀ x c, X.env.cells.lookup x = some c → c ≠ X.env.locals := fun x c e z => by
  obtain ⟨v, o, ho, hd⟩ := I.cell x c e
  obtain ⟨m, ⟨o', es, ep, ho', hd', _⟩, _⟩ := I.loc
  rw [z, ho'] at ho; cases ho; rw [hd'] at hd; cases hd
theorem Inv.funs (I : Inv X pins σ H s) : s.heap.FunFrames X.base X.outer := by
  have all : ∀ (l : List Env), (∀ b ∈ frs l, b ∈ X.fs) → X.s₀.heap.FunFrames X.base l → s.heap.FunFrames X.base l := by
    intro l
    induction l with
    | nil => intro _ _; trivial
    | cons env r ih =>
      intro hs hl
      obtain ⟨hk, ⟨L, o, hf, hn, ho, hd⟩, hr⟩ := hl
      have hL : L ∈ X.fs := hs L (by unfold frs; rw [List.filterMap_cons, hf]; exact List.mem_cons_self)
      obtain ⟨sl, e⟩ := I.base.slot L o ho (I.ok.frf L hL) hL fun z => I.ok.exfs L z hL
      exact ⟨hk, ⟨L, _, hf, hn, e, hd⟩, ih (fun b hb => hs b (by unfold frs; rw [List.filterMap_cons, hf]; exact List.mem_cons_of_mem _ hb)) hr⟩
  exact all X.outer (fun _ hb => hb) I.ok.funs
theorem Inv.stack (I : Inv X pins σ H s) : s.heap.FunFrames X.base X.stack := by
  rcases I.ok.stk with e | ⟨e, hf⟩
  · rw [e]; exact I.funs
  · rw [e]
    obtain ⟨m, hn, _⟩ := I.loc
    refine .cons (by rw [I.ok.kind]; decide) hf hn ?_ I.funs
    exact Heap.get?_none_of_le (Nat.le_trans I.ok.bsz I.ok.above)
theorem Inv.stkSub (I : Inv X pins σ H s) : ∀ b ∈ frs X.stack, b ∈ X.env.locals :: X.fs := fun b hb => by
  rcases I.ok.stk with e | ⟨e, hf⟩
  · rw [e] at hb; exact List.mem_cons_of_mem _ hb
  · rw [e] at hb
    unfold frs at hb
    rw [List.filterMap_cons, hf] at hb
    exact hb
theorem Inv.stkFree (I : Inv X pins σ H s) : ∀ b ∈ frs X.stack, H b = none := fun b hb => by
  rcases List.mem_cons.mp (I.stkSub b hb) with e | hb
  · rw [e]; exact I.free
  · obtain ⟨_, o, ho, _⟩ := I.ok.funs.mem hb
    exact I.base.free b o ho (I.ok.frf b hb) fun z => I.ok.exfs b z hb
theorem Inv.step {g' : Array GenState} {t' : Nat} {d' : Drawn} {ch : List Addr} (I : Inv X pins σ H s)
    (hch : ∀ b ∈ ch, (b ∈ X.ex ∨ X.s₀.heap.objs.size ≤ b) ∧ b ≠ X.env.locals ∧ (∀ x c, X.env.cells.lookup x = some c → c ≠ b) ∧ ∀ p ∈ X.pn ++ pins, p.1 ≠ b)
    (keep : ∀ b o, b ≠ X.env.locals → b ∉ X.fs → b ∉ ch → s.heap.get? b = some o → H b = none → h'.get? b = some o)
    (slot : ∀ b o, b ≠ X.env.locals → b ∈ X.fs → b ∉ ch → s.heap.get? b = some o → H b = none → ∃ sl, h'.get? b = some { o with slots := sl }) (free : ∀ b o, b ∉ ch → s.heap.get? b = some o → H b = none → H' b = none)
    (there : ∀ b o, b ∉ ch → s.heap.get? b = some o → ∃ o', h'.get? b = some o')
    (tups : ∀ b xs, H b = some (.tup xs) → H' b = some (.tup xs)) (frzs : ∀ b o u, H b = some (.frz o u) → H' b = some (.frz o u)) (tbls : ∀ b ps, H b = some (.tbl ps) → ∃ more, H' b = some (.tbl (ps ++ more)))
    (ns : ∀ m, s.heap.Ns X.env.locals m → h'.Ns X.env.locals m) (hok : HOk X.prog X.w H' h') (hg : AllBare g') :
    Inv X pins σ H' { s with heap := h', gens := g', drawn := d', toks := t' } := by
  have neL : ∀ b o, X.s₀.heap.get? b = some o → b ≠ X.env.locals := fun b o e => Nat.ne_of_lt (Nat.lt_of_lt_of_le (Heap.lt_size e) I.ok.above)
  have neC : ∀ b o, X.s₀.heap.get? b = some o → b ∉ X.ex → b ∉ ch := fun b o e hx hb => by
    rcases (hch b hb).1 with z | z
    · exact hx z
    · exact absurd (Nat.lt_of_lt_of_le (Heap.lt_size e) z) (Nat.lt_irrefl _)
  have cellK : ∀ x c, X.env.cells.lookup x = some c → ∀ v, s.heap.IsCell c v → h'.IsCell c v := fun x c e v ⟨o, ho, hd⟩ => by
    have nch : c ∉ ch := fun z => (hch c z).2.2.1 x c e rfl
    by_cases hc : c ∈ X.fs
    · obtain ⟨sl, q⟩ := slot c o (I.cne x c e) hc nch ho (I.freeC x c e)
      exact ⟨_, q, hd⟩
    · exact ⟨o, keep c o (I.cne x c e) hc nch ho (I.freeC x c e), hd⟩
  refine ⟨I.ok, I.os, hg, ⟨fun b o e n hb hx => ?_, fun b o e n hb hx => ?_, fun b o e n hx => ?_, fun b o e hx => ?_, fun b xs e => tups b xs (I.base.tups b xs e), fun b o xs e => frzs b o xs (I.base.frzs b o xs e), fun b ps e => ?_⟩, ?_, fun x c e => ?_, ?_, fun x c e => ?_, fun p hp => ?_, hok, I.len⟩
  · exact keep b o (neL b o e) hb (neC b o e hx) (I.base.keep b o e n hb hx) (I.base.free b o e n hx)
  · obtain ⟨sl, e1⟩ := I.base.slot b o e n hb hx
    obtain ⟨sl', e2⟩ := slot b _ (neL b o e) hb (neC b o e hx) e1 (I.base.free b o e n hx)
    exact ⟨sl', e2⟩
  · obtain ⟨o', e1⟩ := I.base.there b o e hx
    exact free b o' (neC b o e hx) e1 (I.base.free b o e n hx)
  · obtain ⟨o', e1⟩ := I.base.there b o e hx
    exact there b o' (neC b o e hx) e1
  · obtain ⟨m1, e1⟩ := I.base.tbls b ps e
    obtain ⟨m2, e2⟩ := tbls b _ e1
    exact ⟨m1 ++ m2, by rw [e2, Array.append_assoc]⟩
  · obtain ⟨m, hn, hl⟩ := I.loc
    refine ⟨m, ns m hn, fun i x v e1 e2 e3 => ?_⟩
    obtain ⟨u, r, l⟩ := hl i x v e1 e2 e3
    refine ⟨u, r, ?_⟩
    rcases l with l | ⟨k, c, e, z⟩
    · exact .inl l
    · exact .inr ⟨k, c, e, cellK x c e _ z⟩
  · obtain ⟨v, z⟩ := I.cell x c e
    exact ⟨v, cellK x c e v z⟩
  · obtain ⟨m, ⟨o, _, _, ho, _⟩, _⟩ := I.loc
    exact free _ o (fun z => (hch _ z).2.1 rfl) ho I.free
  · obtain ⟨v, o, ho, hd⟩ := I.cell x c e
    exact free c o (fun z => (hch c z).2.2.1 x c e rfl) ho (I.freeC x c e)
  · obtain ⟨e, n, ne, nf, d⟩ := I.pin p hp
    have nch : p.1 ∉ ch := fun z => (hch p.1 z).2.2.2 p hp rfl
    exact ⟨keep p.1 p.2 ne nf nch e n, free p.1 p.2 nch e n, ne, nf, d⟩
theorem Inv.un {t' : Nat} (I : Inv X pins σ H s) (u : Un X.fs [] H H' s.heap h') (hok : HOk X.prog X.w H' h') : Inv X pins σ H' { s with heap := h', toks := t' } := by
  obtain ⟨m, ⟨o, es, ep, ho, r⟩, _⟩ := id I.loc
  obtain ⟨sl, hL⟩ := u.any ho I.free (by simp)
  exact I.step (g' := s.gens) (d' := s.drawn) (ch := []) (fun _ z => nomatch z) (fun b o _ hb _ e n => u.keep b o e n hb (by simp)) (fun b o _ hb _ e n => u.slot b o e n hb (by simp)) (fun b o _ e n => u.free b o e n (by simp)) (fun b o _ e => u.there b o e (by simp)) u.tups u.frzs u.tbls (fun m' hm => by
    obtain ⟨o', es', ep', ho', r'⟩ := hm
    rw [ho] at ho'; cases ho'
    exact ⟨_, es', ep', hL, r'⟩) hok I.bare
theorem Inv.call {g' : Array GenState} {t' : Nat} {d' : Drawn} {ch : List Addr} (I : Inv X pins σ H s) (u : Un (frs X.stack) ch H H' s.heap h') (hok : HOk X.prog X.w H' h') (hg : AllBare g')
    (hch : ∀ b ∈ ch, (b ∈ X.ex ∨ X.s₀.heap.objs.size ≤ b) ∧ b ≠ X.env.locals ∧ (∀ x c, X.env.cells.lookup x = some c → c ≠ b) ∧ ∀ p ∈ X.pn ++ pins, p.1 ≠ b) :
    Inv X pins σ H' { s with heap := h', gens := g', drawn := d', toks := t' } := by
  obtain ⟨m, ⟨o, es, ep, ho, r⟩, _⟩ := id I.loc
  obtain ⟨sl, hL⟩ := u.any ho I.free fun z => (hch _ z).2.1 rfl
  exact I.step (ch := ch) hch (fun b o hL hb hc e n => u.keep b o e n (fun z => (List.mem_cons.mp (I.stkSub b z)).elim hL hb) hc) (fun b o _ _ hc e n => u.any e n hc) (fun b o hc e n => u.free b o e n hc) (fun b o hc e => u.there b o e hc) u.tups u.frzs u.tbls (fun m' hm => by
    obtain ⟨o', es', ep', ho', r'⟩ := hm
    rw [ho] at ho'; cases ho'
    exact ⟨_, es', ep', hL, r'⟩) hok hg
theorem Inv.turned {t' : Nat} {it : Addr} (I : Inv X pins σ H s) (k : ∀ b o, b ≠ it → s.heap.get? b = some o → h'.get? b = some o) (hn : H it = none) (hL : it ≠ X.env.locals)
    (h1 : it ∈ X.ex ∨ X.s₀.heap.objs.size ≤ it) (h2 : ∀ x c, X.env.cells.lookup x = some c → c ≠ it) (h3 : ∀ p ∈ X.pn ++ pins, p.1 ≠ it) : Inv X pins σ H { s with heap := h', toks := t' } := by
  have nit : ∀ b u, H b = some u → b ≠ it := fun b u e z => by rw [z, hn] at e; cases e
  refine I.step (g' := s.gens) (d' := s.drawn) (ch := [it]) (fun b hb => ?_) (fun b o _ _ hc e _ => k b o (fun z => hc (by simp [z])) e) (fun b o _ _ hc e _ => ⟨o.slots, k b o (fun z => hc (by simp [z])) e⟩) (fun _ _ _ _ n => n)
    (fun b o hc e => ⟨o, k b o (fun z => hc (by simp [z])) e⟩) (fun _ _ e => e) (fun _ _ _ e => e) (fun b ps e => ⟨#[], by rw [e]; simp⟩) (fun m hm => ?_) (fun b u e => ?_) I.bare
  · have e : b = it := by simpa using hb
    subst e
    exact ⟨h1, hL, h2, h3⟩
  · obtain ⟨o, es, ep, ho, r⟩ := hm
    exact ⟨o, es, ep, k _ o (Ne.symm hL) ho, r⟩
  · refine (I.hok b u e).stay (fun c v hc q => k c v ?_ q) (fun _ q => q) fun _ _ q => q
    rcases hc with z | z
    · rw [z]; exact nit b u e
    · exact nit c _ z
theorem Inv.tok (I : Inv X pins σ H s) (t : Nat) : Inv X pins σ H { s with toks := t } := I.un (h' := s.heap) (t' := t) Un.refl I.hok
theorem Inv.kept {t' : Nat} (I : Inv X pins σ H s) (k : ∀ b u, s.heap.get? b = some u → h'.get? b = some u) : Inv X pins σ H { s with heap := h', toks := t' } := I.un (Un.kept k) (I.hok.kept k)
theorem Inv.laid {a : Addr} {o : HO} {t' : Nat} (I : Inv X pins σ H s) (k : ∀ b u, s.heap.get? b = some u → h'.get? b = some u) (hp : s.heap.objs.size ≤ a) (new : ObjOk X.prog X.w (upd H a o) h' a o) :
    Inv X pins σ (upd H a o) { s with heap := h', toks := t' } := I.un (Un.laid k hp (I.hok.fresh hp)) (I.hok.laid k hp new)
theorem Inv.write {x e : Addr} {o : HO} {t' : Nat} (I : Inv X pins σ H s) (mu : Mut (H x)) (he : e = x ∨ H e = some (.own x)) (k : ∀ b u, b ≠ e → s.heap.get? b = some u → h'.get? b = some u) (heo : ∃ u, h'.get? e = some u)
    (new : ObjOk X.prog X.w (upd H x o) h' x o) : Inv X pins σ (upd H x o) { s with heap := h', toks := t' } := I.un (Un.write mu he k heo) (I.hok.write mu he k heo new)
theorem Inv.pins_of {pins' : List (Addr × Obj)} (I : Inv X pins σ H s) (h : ∀ p ∈ pins', s.heap.get? p.1 = some p.2 ∧ H p.1 = none ∧ p.1 ≠ X.env.locals ∧ p.1 ∉ X.fs ∧ ∀ v, p.2.data ≠ .cell v) : Inv X pins' σ H s :=
  ⟨I.ok, I.os, I.bare, I.base, I.loc, I.cell, I.free, I.freeC, fun p hp => (List.mem_append.mp hp).elim (fun z => I.pin p (List.mem_append_left _ z)) (h p), I.hok, I.len⟩
theorem nodup_ix {N : List Str} (hN : N.Nodup) {i j : Nat} {x : Str} (a : N[i]? = some x) (b : N[j]? = some x) : i = j := by
  obtain ⟨h1, e1⟩ := List.getElem?_eq_some_iff.mp a
  obtain ⟨h2, e2⟩ := List.getElem?_eq_some_iff.mp b
  exact (List.getElem_inj hN).mp (e1.trans e2.symm)
theorem store_ok2 {M : Model} {A : Around} {E : Value → Shared → Prop} {i : Nat} {x : Str} {v : V} {u : Value} {Q : Unit → Shared → Prop} (I : Inv X pins σ H s) (hN : X.N.Nodup) (hi : X.N[i]? = some x) (hx : Loc X.env.scope x) (r : RelV v u)
    (h : ∀ s', Inv X pins (σ.set i (some v)) H s' → (∃ a, Heap.SameBut a s.heap s'.heap ∧ (a = X.env.locals ∨ X.env.cells.lookup x = some a)) → Q () s') (hf : X.fn x = true ∨ X.env.scope.names.lookup x = some .local := by first | exact .inl rfl | exact .inr rfl | assumption) : wpAny M A (storeName X.env x u) Q E s := by
  obtain ⟨m, hn, hl⟩ := id I.loc
  have hcls : (X.env.scope.kind == .class || (X.env.scope.kind == .module && X.env.locals != X.env.globals)) = false := by rw [I.ok.kind]; rfl
  have hiσ : i < σ.length := by rw [I.len]; exact (List.getElem?_eq_some_iff.mp hi).1
  have cne := I.cne
  have tracked : ∀ {a : Addr} {h' : Heap}, (∃ o, s.heap.get? a = some o ∧ H a = none) → Heap.SameBut a s.heap h' → HOk X.prog X.w H h' := fun {a h'} ha hs b ob e => by
    obtain ⟨_, _, hfree⟩ := ha
    refine (I.hok b ob e).stay (fun c w' hc q => (hs.2 c ?_).trans q) (fun _ q => q) fun _ _ q => q
    rintro rfl
    rcases hc with rfl | hc
    · rw [hfree] at e; cases e
    · rw [hfree] at hc; cases hc
  rcases hx with hk | hk
  · refine wpAny_storeName_local hk hn (fun h' hn' hs => ?_) hcls
    obtain ⟨oL, _, _, hoL, _⟩ := id hn
    refine h _ ⟨I.ok, I.os, I.bare, ⟨fun b o e n hb hx => ?_, fun b o e n hb hx => ?_, I.base.free, fun b o e hx => ?_, I.base.tups, I.base.frzs, I.base.tbls⟩, ⟨_, hn', fun j y v' e1 e2 e3 => ?_⟩, fun y c e => ?_, I.free, I.freeC, fun p hp => ?_, tracked ⟨oL, hoL, I.free⟩ hs, by simpa using I.len⟩ ⟨_, hs, .inl rfl⟩
    · exact (hs.2 b (Nat.ne_of_lt (Nat.lt_of_lt_of_le (Heap.lt_size e) I.ok.above))).trans (I.base.keep b o e n hb hx)
    · obtain ⟨sl, e1⟩ := I.base.slot b o e n hb hx
      exact ⟨sl, (hs.2 b (Nat.ne_of_lt (Nat.lt_of_lt_of_le (Heap.lt_size e) I.ok.above))).trans e1⟩
    · obtain ⟨o', e1⟩ := I.base.there b o e hx
      exact ⟨o', (hs.2 b (Nat.ne_of_lt (Nat.lt_of_lt_of_le (Heap.lt_size e) I.ok.above))).trans e1⟩
    · by_cases hj : j = i
      · subst hj
        rw [hi] at e1; cases e1
        rw [List.getElem?_set_self hiσ] at e2
        cases e2
        exact ⟨u, r, .inl ⟨hk, by simp⟩⟩
      · rw [List.getElem?_set_ne (Ne.symm hj)] at e2
        obtain ⟨u', r', q⟩ := hl j y v' e1 e2 e3
        refine ⟨u', r', ?_⟩
        rcases q with ⟨k, e⟩ | ⟨k, c, e, z⟩
        · refine .inl ⟨k, ?_⟩
          have : y ≠ x := fun e => hj (nodup_ix hN e1 (e ▸ hi))
          simp [this, e]
        · exact .inr ⟨k, c, e, z.sameBut hs (cne y c e)⟩
    · obtain ⟨w', z⟩ := I.cell y c e
      exact ⟨w', z.sameBut hs (cne y c e)⟩
    · obtain ⟨e, n, ne, nf, d⟩ := I.pin p hp
      exact ⟨(hs.2 p.1 ne).trans e, n, ne, nf, d⟩
  · have hfn : X.fn x = true := by
      rcases hf with z | z
      · exact z
      · rw [z] at hk; cases hk
    obtain ⟨c, hc⟩ := I.ok.has x (.inl hk)
    obtain ⟨w', z⟩ := I.cell x c hc
    refine wpAny_storeName_cell I.ok.kind hk hc z (fun h' hc' hs => ?_)
    obtain ⟨oc, hoc, hocd⟩ := id z
    refine h { s with heap := h' } ⟨I.ok, I.os, I.bare, ⟨fun b o e n hb hx => ?_, fun b o e n hb hx => ?_, I.base.free, fun b o e hx => ?_, I.base.tups, I.base.frzs, I.base.tbls⟩, ⟨m, hn.sameBut hs (Ne.symm (cne x c hc)), fun j y v' e1 e2 e3 => ?_⟩, fun y c' e => ?_, I.free, I.freeC, fun p hp => ?_, tracked ⟨oc, hoc, I.freeC x c hc⟩ hs, by simpa using I.len⟩ ⟨c, hs, .inr hc⟩
    · exact (hs.2 b (Nat.ne_of_lt (Nat.lt_of_lt_of_le (Heap.lt_size e) (I.ok.cab x c hfn hc)))).trans (I.base.keep b o e n hb hx)
    · obtain ⟨sl, e1⟩ := I.base.slot b o e n hb hx
      exact ⟨sl, (hs.2 b (Nat.ne_of_lt (Nat.lt_of_lt_of_le (Heap.lt_size e) (I.ok.cab x c hfn hc)))).trans e1⟩
    · obtain ⟨o', e1⟩ := I.base.there b o e hx
      exact ⟨o', (hs.2 b (Nat.ne_of_lt (Nat.lt_of_lt_of_le (Heap.lt_size e) (I.ok.cab x c hfn hc)))).trans e1⟩
    · by_cases hj : j = i
      · subst hj
        rw [hi] at e1; cases e1
        rw [List.getElem?_set_self hiσ] at e2
        cases e2
        exact ⟨u, r, .inr ⟨.inl hk, c, hc, hc'⟩⟩
      · rw [List.getElem?_set_ne (Ne.symm hj)] at e2
        obtain ⟨u', r', q⟩ := hl j y v' e1 e2 e3
        refine ⟨u', r', ?_⟩
        rcases q with q | ⟨k, c', e, z'⟩
        · exact .inl q
        · refine .inr ⟨k, c', e, z'.sameBut hs ?_⟩
          rintro rfl
          exact hj (nodup_ix hN e1 (I.ok.inj _ _ _ e hc ▸ hi))
    · by_cases hcc : c' = c
      · subst hcc; exact ⟨_, hc'⟩
      · obtain ⟨w2, z2⟩ := I.cell y c' e
        exact ⟨w2, z2.sameBut hs hcc⟩
    · obtain ⟨e, n, ne, nf, d⟩ := I.pin p hp
      refine ⟨(hs.2 p.1 ?_).trans e, n, ne, nf, d⟩
      intro q
      rw [q, hoc] at e
      have q' : oc = p.2 := Option.some.inj e
      exact d w' (by rw [← q']; exact hocd)
theorem store_ok {M : Model} {A : Around} {E : Value → Shared → Prop} {i : Nat} {x : Str} {v : V} {u : Value} {Q : Unit → Shared → Prop} (I : Inv X pins σ H s) (hN : X.N.Nodup) (hi : X.N[i]? = some x) (hx : Loc X.env.scope x) (r : RelV v u)
    (h : ∀ s', Inv X pins (σ.set i (some v)) H s' → Q () s') (hf : X.fn x = true ∨ X.env.scope.names.lookup x = some .local := by first | exact .inl rfl | exact .inr rfl | assumption) : wpAny M A (storeName X.env x u) Q E s :=
  store_ok2 I hN hi hx r (fun s' I' _ => h s' I') hf
theorem Inv.call' {s' : Shared} {ch : List Addr} (I : Inv X pins σ H s) (ho : s'.os = s.os) (u : Un (frs X.stack) ch H H' s.heap s'.heap) (hok : HOk X.prog X.w H' s'.heap) (hg : AllBare s'.gens)
    (hch : ∀ b ∈ ch, (b ∈ X.ex ∨ X.s₀.heap.objs.size ≤ b) ∧ b ≠ X.env.locals ∧ (∀ x c, X.env.cells.lookup x = some c → c ≠ b) ∧ ∀ p ∈ X.pn ++ pins, p.1 ≠ b) : Inv X pins σ H' s' := by
  obtain ⟨h', g', d', t', o'⟩ := s'
  have e : o' = s.os := ho
  subst e
  exact I.call (g' := g') (t' := t') (d' := d') u hok hg hch
end
abbrev XK := Value → Option Addr → Hp → Prop
abbrev St := List (Option V)
abbrev VK := V → Hp → Prop
abbrev TE := St → Hp → VK → Prop
abbrev TT := St → Hp → (Bool → Hp → Prop) → Prop
abbrev TA := St → Hp → (List V → Hp → Prop) → Prop
structure Ends where
  nx : St → Hp → Prop
  rt : VK
  bk : St → Hp → Prop := fun _ _ => False
  ct : St → Hp → Prop := fun _ _ => False
abbrev TS := Ends → St → Hp → Prop
def EP (X : Cx) (pins : List (Addr × Obj)) (σ : St) (Q : VK) (u : Value) (s' : Shared) : Prop := ∃ v H', Inv X pins σ H' s' ∧ RelV v u ∧ Q v H'
def TP (X : Cx) (pins : List (Addr × Obj)) (σ : St) (Q : Bool → Hp → Prop) (b : Bool) (s' : Shared) : Prop := ∃ H', Inv X pins σ H' s' ∧ Q b H'
def AP (X : Cx) (pins : List (Addr × Obj)) (σ : St) (Q : List V → Hp → Prop) (us : List Value) (s' : Shared) : Prop := ∃ vs H', Inv X pins σ H' s' ∧ Vals vs us ∧ Q vs H'
def SP (X : Cx) (pins : List (Addr × Obj)) (D : Ends) (f : Flow) (s' : Shared) : Prop :=
  match f with
  | .next => ∃ σ' H', Inv X pins σ' H' s' ∧ D.nx σ' H'
  | .brk => ∃ σ' H', Inv X pins σ' H' s' ∧ D.bk σ' H'
  | .cont => ∃ σ' H', Inv X pins σ' H' s' ∧ D.ct σ' H'
  | .ret u => ∃ v σ' H', Inv X pins σ' H' s' ∧ RelV v u ∧ D.rt v H'
def PE (X : Cx) (e : Expr) (t : TE) : Prop :=
  ∀ (pins : List (Addr × Obj)) (s : Shared) (σ : St) (H : Hp) (Q : VK), Inv X pins σ H s → t σ H Q → wpAny (model X.prog X.w) X.A (eval e X.env) (EP X pins σ Q) X.xe s
def PT (X : Cx) (e : Expr) (t : TT) : Prop :=
  ∀ (pins : List (Addr × Obj)) (s : Shared) (σ : St) (H : Hp) (Q : Bool → Hp → Prop), Inv X pins σ H s → t σ H Q → wpAny (model X.prog X.w) X.A (isTrue e X.env (eval e X.env)) (TP X pins σ Q) X.xe s
def PW (X : Cx) (e : Expr) (t : TT) : Prop :=
  ∀ (whole : Sem Value) (pins : List (Addr × Obj)) (s : Shared) (σ : St) (H : Hp) (Q : Bool → Hp → Prop), Inv X pins σ H s → t σ H Q → wpAny (model X.prog X.w) X.A (isTrue e X.env whole) (TP X pins σ Q) X.xe s
theorem PW.pt {X : Cx} {e : Expr} {t : TT} (h : PW X e t) : PT X e t := h _
def PA (X : Cx) (es : List Expr) (t : TA) : Prop :=
  ∀ (pos : Pos) (pins : List (Addr × Obj)) (s : Shared) (σ : St) (H : Hp) (Q : List V → Hp → Prop), Inv X pins σ H s → t σ H Q → wpAny (model X.prog X.w) X.A (spliced (backTo pos (starEach es X.env))) (AP X pins σ Q) X.xe s
def PS (X : Cx) (st : Stmt) (t : TS) : Prop :=
  ∀ (pins : List (Addr × Obj)) (s : Shared) (σ : St) (H : Hp) (D : Ends), Inv X pins σ H s → t D σ H → wpAny (model X.prog X.w) X.A (exec st X.env) (SP X pins D) X.xe s
def PSs (X : Cx) (st : List Stmt) (t : TS) : Prop :=
  ∀ (pins : List (Addr × Obj)) (s : Shared) (σ : St) (H : Hp) (D : Ends), Inv X pins σ H s → t D σ H → wpAny (model X.prog X.w) X.A (execs st X.env) (SP X pins D) X.xe s
theorem thn {α : Type} {t : Sem α} {Q Q' : α → Shared → Prop} {M : Model} {A : Around} {E : Value → Shared → Prop} {s : Shared} (h : wpAny M A t Q E s) (hQ : ∀ a s, Q a s → Q' a s) : wpAny M A t Q' E s := wpAny_mono h hQ fun _ _ x => x
end L2
namespace L2
open PySem PySem.Spec PyProof.Rows
section
variable {X : Cx}
theorem bin {a b : Expr} {ta tb : TE} (ha : PE X a ta) (hb : PE X b tb) {pins : List (Addr × Obj)} {s : Shared} {σ : St} {H : Hp} {R : V → V → Hp → Prop} (I : Inv X pins σ H s) (h : ta σ H fun x H1 => tb σ H1 fun y H2 => R x y H2)
    {α : Type} {Q : α → Shared → Prop} {f : Value → Value → Sem α}
    (hf : ∀ v u s2 x y H2, Inv X pins σ H2 s2 → RelV x v → RelV y u → R x y H2 → wpAny (model X.prog X.w) X.A (f v u) Q X.xe s2) :
    wpAny (model X.prog X.w) X.A (eval a X.env) (fun v s₁ => wpAny (model X.prog X.w) X.A (eval b X.env) (fun u s₂ => wpAny (model X.prog X.w) X.A (f v u) Q X.xe s₂) X.xe s₁) X.xe s := by
  refine thn (ha pins s σ H _ I h) fun v s1 ⟨x, H1, I1, r1, q1⟩ => ?_
  refine thn (hb pins s1 σ H1 _ I1 q1) fun u s2 ⟨y, H2, I2, r2, q2⟩ => ?_
  exact hf v u s2 x y H2 I2 r1 r2 q2
def tVar (i : Nat) : TE := fun σ H Q => ∃ v, σ[i]? = some (some v) ∧ Q v H
def tC (v : V) : TE := fun _ H Q => Q v H
theorem pe_var {i : Nat} {x : Str} {pos : Pos} (hN : X.N[i]? = some x) (hv : Vis X.env.scope x) (hd : (x == ("__debug__" : Str)) = false := by decide) (hcd : (x == ("__classdict__" : Str)) = false := by decide) : PE X (.Name x pos) (tVar i) := by
  intro pins s σ H Q I h
  obtain ⟨v, e, h⟩ := h
  obtain ⟨m, hn, hl⟩ := I.loc
  obtain ⟨u, r, l⟩ := hl i x v hN e hv
  have fin : EP X pins σ Q u s := ⟨v, H, I, r, h⟩
  rcases l with ⟨hk, hm⟩ | ⟨hk, c, hc, hcell⟩
  · exact wpAny_Name (wpAny_loadName_local I.ok.kind hk hn hm fin) hd
  · rcases hk with hk | hk
    · exact wpAny_Name (wpAny_loadName_cell I.ok.kind hk hc hcell fin) hd
    · exact wpAny_Name (wpAny_loadName_free I.ok.kind hk hc hcell fin hcd) hd
theorem pe_int {i j pos} : PE X (.Constant (.int i) j pos) (tC (.int i)) := fun _ _ _ H _ I h => wpAny_Constant_int ⟨.int i, H, I.tok _, ⟨_, rfl⟩, h⟩
theorem pe_bl {b j pos} : PE X (.Constant (.bool b) j pos) (tC (.bl b)) := fun _ _ _ H _ I h => Constant_bool ⟨.bl b, H, I, rfl, h⟩
theorem pe_non {j pos} : PE X (.Constant .none j pos) (tC .non) := fun _ _ _ H _ I h => Constant_none ⟨.non, H, I, rfl, h⟩
theorem pe_str {x j pos} : PE X (.Constant (.str x) j pos) (tC (.str x)) := fun _ _ _ H _ I h => Calls.Constant_str ⟨.str x, H, I.tok _, ⟨_, rfl⟩, h⟩
def Gl (X : Cx) (x : Str) : Prop := X.env.kindOf x = some .globalImplicit
theorem ld_glob {E : Value → Shared → Prop} {pins : List (Addr × Obj)} {s : Shared} {σ : St} {H : Hp} {x : Str} {u : Value} {pos : Pos} {Q : Value → Shared → Prop} (I : Inv X pins σ H s) (hg : Gl X x) (hm : X.mg x = some u) (h : Q u s)
    (hd : (x == ("__debug__" : Str)) = false := by decide) : wpAny (model X.prog X.w) X.A (eval (.Name x pos) X.env) Q E s :=
  Calls.Name_function_global I.ok.kind hg (Calls.loadGlobal_global (by rw [I.ok.glob]; exact I.mod.glob.keeps I.bk) hm h) hd
theorem ld_blt {E : Value → Shared → Prop} {pins : List (Addr × Obj)} {s : Shared} {σ : St} {H : Hp} {x : Str} {u : Value} {pos : Pos} {Q : Value → Shared → Prop} (I : Inv X pins σ H s) (hg : Gl X x) (hm : X.mg x = none) (hv : bootBuiltins x = some u) (h : Q u s)
    (hn : x ≠ "__name__" := by decide) (hd : (x == ("__debug__" : Str)) = false := by decide) : wpAny (model X.prog X.w) X.A (eval (.Name x pos) X.env) Q E s := by
  obtain ⟨mb, h1, h2⟩ := I.mod.blt
  exact Calls.Name_function_global I.ok.kind hg (Calls.loadGlobal_builtin (by rw [I.ok.glob]; exact I.mod.glob.keeps I.bk) hm (by rw [I.ok.blt]; exact h1.keeps I.bk) ((h2 x hn).trans hv) h) hd
theorem pe_glob {x : Str} {v : V} {u : Value} {pos : Pos} (hg : Gl X x) (hm : X.mg x = some u) (r : RelV v u) (hd : (x == ("__debug__" : Str)) = false := by decide) : PE X (.Name x pos) (tC v) :=
  fun _ _ _ H _ I h => ld_glob I hg hm ⟨v, H, I, r, h⟩ hd
theorem pe_bltn {x : Str} {v : V} {u : Value} {pos : Pos} (hg : Gl X x) (hm : X.mg x = none) (hv : bootBuiltins x = some u) (r : RelV v u) (hn : x ≠ "__name__" := by decide) (hd : (x == ("__debug__" : Str)) = false := by decide) : PE X (.Name x pos) (tC v) :=
  fun _ _ _ H _ I h => ld_blt I hg hm hv ⟨v, H, I, r, h⟩ hn hd
def t2I (ta tb : TE) (k : Int → Int → Hp → Prop) : St → Hp → Prop := fun σ H => ta σ H fun x H1 => tb σ H1 fun y H2 => ∃ i j, x = .int i ∧ y = .int j ∧ k i j H2
variable {a b : Expr} {ta tb : TE} {pos : Pos}
def PC (X : Cx) (op : CmpOp) (a b : Expr) (t : TE) : Prop :=
  ∀ (pins : List (Addr × Obj)) (s : Shared) (σ : St) (H : Hp) (Q : VK), Inv X pins σ H s → t σ H Q →
    wpAny (model X.prog X.w) X.A (eval a X.env) (fun v s₁ => wpAny (model X.prog X.w) X.A (eval b X.env) (fun u s₂ => wpAny (model X.prog X.w) X.A (compareOp op v u) (EP X pins σ Q) X.xe s₂) X.xe s₁) X.xe s
theorem nobehind (b : Expr) {op : CmpOp} (h : op ≠ .In) (h2 : op ≠ .NotIn) : behindInMarks op b = false := by
  have e1 : (op == CmpOp.In) = false := by cases op <;> first | rfl | exact absurd rfl h
  have e2 : (op == CmpOp.NotIn) = false := by cases op <;> first | rfl | exact absurd rfl h2
  cases b <;> simp [behindInMarks, e1, e2]
def tCmp (p : Int → Int → Bool) (ta tb : TE) : TE := fun σ H Q => t2I ta tb (fun i j H2 => Q (.bl (p i j)) H2) σ H
abbrev tNeI : TE → TE → TE := tCmp fun i j => !decide (i = j)
theorem pc_int {op : CmpOp} {p : Int → Int → Bool} (ha : PE X a ta) (hb : PE X b tb)
    (rule : ∀ (i j : Int) (t u : Tok) (Q : Value → Shared → Prop) (s : Shared), Q (.bool (p i j)) s → wpAny (model X.prog X.w) X.A (compareOp op (.int i t) (.int j u)) Q X.xe s) : PC X op a b (tCmp p ta tb) := by
  intro pins s σ H Q I h
  refine bin ha hb I h fun v u s2 x y H2 I2 rx ry q => ?_
  obtain ⟨i, j, rfl, rfl, q⟩ := q
  obtain ⟨t, rfl⟩ := rx
  obtain ⟨t', rfl⟩ := ry
  exact rule i j t t' _ s2 ⟨.bl _, H2, I2, rfl, q⟩
theorem pc_neI (ha : PE X a ta) (hb : PE X b tb) : PC X .NotEq a b (tNeI ta tb) := pc_int ha hb fun _ _ _ _ _ _ h => ne_int (by rw [bne, Bool.beq_eq_decide_eq]; exact h)
def tIsN (ta : TE) : TE := fun σ H Q => ta σ H fun x H1 => Q (.bl (decide (x = .non))) H1
theorem RelV.none_iff {x : V} {v : Value} (r : RelV x v) : (v == Value.none) = decide (x = .non) := by
  cases x with
  | non => cases r; rfl
  | bl _ => cases r; rfl
  | int _ => obtain ⟨t, rfl⟩ := r; rfl
  | str _ => obtain ⟨t, rfl⟩ := r; rfl
  | byt _ => obtain ⟨t, rfl⟩ := r; rfl
  | flt _ => obtain ⟨t, rfl⟩ := r; rfl
  | ref _ => cases r; rfl
  | ty _ => cases r; rfl
theorem pc_isN {j pos'} (ha : PE X a ta) : PC X .Is a (.Constant .none j pos') (tIsN ta) := by
  intro pins s σ H Q I h
  refine thn (ha pins s σ H _ I h) fun v s1 ⟨x, H1, I1, r1, q1⟩ => ?_
  exact Constant_none (is_none_gen ⟨.bl _, H1, I1, by rw [r1.none_iff]; rfl, q1⟩)
def tB (t : TE) : TT := fun σ H Q => t σ H fun x H1 => ∃ c, x = .bl c ∧ Q c H1
theorem pt_cmp {op : CmpOp} {t : TE} (h : PC X op a b t) (h1 : behindInMarks op b = false := by first | exact nobehind _ (by decide) (by decide) | rfl) : PT X (.Compare a [op] [b] pos) (tB t) := by
  intro pins s σ H Q I hw
  refine wpAny_isTrue_Compare1 (thn (h pins s σ H _ I hw) fun v s1 h1 => thn h1 fun u s2 h2 => thn h2 fun c s3 ⟨x, H1, I1, r1, q1⟩ => ?_) h1
  obtain ⟨d, rfl, q⟩ := q1
  cases r1
  exact wpAny_truthy_bool ⟨H1, I1, q⟩
theorem pt_val {e : Expr} {t : TE} (h : PE X e t) (he : ∀ whole, isTrue e X.env whole = (do let v ← whole; standAt e.pos; holding [v] (truthy v)) := by intro _; rfl) : PT X e (tB t) := by
  intro pins s σ H Q I hw
  refine isTrue_plain (thn (h pins s σ H _ I hw) fun v s1 ⟨x, H1, I1, r1, q1⟩ => ?_) (he _)
  obtain ⟨d, rfl, q⟩ := q1
  cases r1
  exact wpAny_truthy_bool ⟨H1, I1, q⟩
variable {tA tB' : TT} {rest : List Expr}
def tOr (t u : TT) : TT := fun σ H Q => t σ H fun c H1 => if c = true then Q true H1 else u σ H1 Q
def tNot (t : TT) : TT := fun σ H Q => t σ H fun c H1 => Q (!c) H1
theorem pw_or1 (ha : PT X a tA) : PW X (.BoolOp .Or [a] pos) tA := by
  intro wh pins s σ H Q I h
  refine isTrue_or (thn (ha pins s σ H Q I h) fun c s1 e => ?_)
  cases c with
  | false => exact isTrue_or_nil e
  | true => exact e
theorem pw_or (ha : PT X a tA) (hb : PW X (.BoolOp .Or (b :: rest) pos) tB') : PW X (.BoolOp .Or (a :: b :: rest) pos) (tOr tA tB') := by
  intro wh pins s σ H Q I h
  refine isTrue_or (thn (ha pins s σ H _ I h) fun c s1 ⟨H1, I1, q1⟩ => ?_)
  cases c with
  | true => exact ⟨H1, I1, q1⟩
  | false => exact hb wh pins s1 σ H1 Q I1 q1
theorem pt_not (ha : PT X a tA) : PT X (.UnaryOp .Not a pos) (tNot tA) := by
  intro pins s σ H Q I h
  exact isTrue_not (ha pins s σ H (fun c H1 => Q (!c) H1) I h)
def tAndV (ta tb : TE) : TE := fun σ H Q => ta σ H fun x H1 => ∃ c, x = .bl c ∧ if c = true then tb σ H1 Q else Q (.bl false) H1
def tNotV (ta : TE) : TE := fun σ H Q => ta σ H fun x H1 => ∃ c, x = .bl c ∧ Q (.bl (!c)) H1
theorem pe_one {op} {t : TE} (h : PE X a t) : PE X (.BoolOp op [a] pos) t := fun pins s σ H Q I hw => BoolOp_one (h pins s σ H Q I hw)
theorem pe_and (ha : PE X a ta) (hb : PE X (.BoolOp .And (b :: rest) pos) tb) : PE X (.BoolOp .And (a :: b :: rest) pos) (tAndV ta tb) := by
  intro pins s σ H Q I h
  refine BoolOp_and (thn (ha pins s σ H _ I h) fun v s1 ⟨x, H1, I1, r1, q1⟩ => ?_)
  obtain ⟨c, rfl, q1⟩ := q1
  cases r1
  refine wpAny_truthy_bool ?_
  cases c with
  | true => exact hb pins s1 σ H1 Q I1 q1
  | false => exact ⟨.bl false, H1, I1, rfl, q1⟩
theorem pe_not (ha : PE X a ta) : PE X (.UnaryOp .Not a pos) (tNotV ta) := by
  intro pins s σ H Q I h
  refine UnaryOp_ (thn (ha pins s σ H _ I h) fun v s1 ⟨x, H1, I1, r1, q1⟩ => ?_)
  obtain ⟨c, rfl, q1⟩ := q1
  cases r1
  exact not_of (wpAny_truthy_bool ⟨.bl (!c), H1, I1, rfl, q1⟩)
def tIf (t : TT) (ta tb : TE) : TE := fun σ H Q => t σ H fun c H1 => if c = true then ta σ H1 Q else tb σ H1 Q
theorem pe_ifExp {c : Expr} (hc : PT X c tA) (ha : PE X a ta) (hb : PE X b tb) : PE X (.IfExp c a b pos) (tIf tA ta tb) := by
  intro pins s σ H Q I h
  refine wpAny_IfExp (thn (hc pins s σ H _ I h) fun d s1 ⟨H1, I1, q1⟩ => ?_)
  cases d with
  | true => exact ha pins s1 σ H1 Q I1 q1
  | false => exact hb pins s1 σ H1 Q I1 q1
end
end L2
namespace L2
open PySem PySem.Spec PyProof.Rows
def SqL (K : PySem.W.Frag) (H : Hp) (a : Addr) (xs : List V) : Prop :=
  Rd H a (.lst xs) ∨
    ∃ (o : Obj) (its : Array Value) (n : Nat), K.lookup a = some o ∧ o.cls = .type "list" ∧ o.dict = none ∧ o.data = .seq its n ∧ its.size ≤ sizeLine ∧ Vals xs its.toList
def SqT (K : PySem.W.Frag) (H : Hp) (a : Addr) (xs : List V) : Prop :=
  Rd H a (.tup xs) ∨
    ∃ (o : Obj) (its : Array Value) (n : Nat), K.lookup a = some o ∧ o.cls = .type "tuple" ∧ o.data = .seq its n ∧ its.size ≤ sizeLine ∧ Vals xs its.toList
def absV : Value → Option V
  | .none => some .non
  | .bool b => some (.bl b)
  | .int i _ => some (.int i)
  | .str x _ => some (.str x)
  | .bytes b _ => some (.byt b)
  | .float b _ => some (.flt b)
  | .ref a => some (.ref a)
  | .type n => some (.ty n)
  | _ => none
theorem RelV.abs {x : V} {u : Value} (r : RelV x u) : absV u = some x := by
  cases x with
  | non => cases r; rfl
  | bl _ => cases r; rfl
  | int _ => obtain ⟨t, rfl⟩ := r; rfl
  | str _ => obtain ⟨t, rfl⟩ := r; rfl
  | byt _ => obtain ⟨t, rfl⟩ := r; rfl
  | flt _ => obtain ⟨t, rfl⟩ := r; rfl
  | ref _ => cases r; rfl
  | ty _ => cases r; rfl
theorem RelV.inj {x y : V} {u : Value} (r : RelV x u) (q : RelV y u) : x = y := Option.some.inj (r.abs.symm.trans q.abs)
theorem Vals.inj : ∀ {xs ys : List V} {us : List Value}, Vals xs us → Vals ys us → xs = ys
  | _, _, _, .nil, .nil => rfl
  | _, _, _, .cons r t, .cons r' t' => by rw [r.inj r', Vals.inj t t']
section
variable {X : Cx} {pins : List (Addr × Obj)} {σ : St} {H : Hp} {s : Shared} {a : Addr} {xs ys : List V}
theorem SqL.of {K : PySem.W.Frag} (h : H a = some (.lst xs)) : SqL K H a xs := .inl (.inl h)
theorem SqT.of {K : PySem.W.Frag} (h : H a = some (.tup xs)) : SqT K H a xs := .inl (.inl h)
theorem Inv.list (I : Inv X pins σ H s) (h : SqL X.K H a xs) : ∃ its : List Value, Vals xs its ∧ PlainL s.heap a its.toArray ∧ xs.length ≤ sizeLine := by
  rcases h with h | ⟨o, its, n, hk, hc, hd, hs, hz, r⟩
  · obtain ⟨z, its, n, r, e⟩ := h.ok I.hok
    exact ⟨its, r, ⟨_, n, e, rfl, rfl, rfl⟩, z⟩
  · refine ⟨its.toList, r, ⟨o, n, I.kIn a o hk, hc, hd, by simpa using hs⟩, ?_⟩
    have e := r.length
    simp only [Array.length_toList] at e
    omega
theorem Inv.tuple (I : Inv X pins σ H s) (h : SqT X.K H a xs) : ∃ its : List Value, Vals xs its ∧ IsTup s.heap a its.toArray ∧ xs.length ≤ sizeLine := by
  rcases h with h | ⟨o, its, n, hk, hc, hs, hz, r⟩
  · obtain ⟨z, its, r, p⟩ := h.ok I.hok
    exact ⟨its, r, p, z⟩
  · refine ⟨its.toList, r, ⟨o, I.kIn a o hk, hc, n, by simpa using hs⟩, ?_⟩
    have e := r.length
    simp only [Array.length_toList] at e
    omega
theorem Inv.list_inj (I : Inv X pins σ H s) (h : SqL X.K H a xs) (h' : SqL X.K H a ys) : xs = ys := by
  obtain ⟨its, r, ⟨o, n, e, _, _, d⟩, _⟩ := I.list h
  obtain ⟨its', r', ⟨o', n', e', _, _, d'⟩, _⟩ := I.list h'
  rw [e] at e'; cases e'
  rw [d] at d'
  injection d' with d1 _
  have : its = its' := by simpa using congrArg Array.toList d1
  subst this
  exact r.inj r'
theorem Inv.tuple_inj (I : Inv X pins σ H s) (h : SqT X.K H a xs) (h' : SqT X.K H a ys) : xs = ys := by
  obtain ⟨its, r, ⟨o, e, _, n, d⟩, _⟩ := I.tuple h
  obtain ⟨its', r', ⟨o', e', _, n', d'⟩, _⟩ := I.tuple h'
  rw [e] at e'; cases e'
  rw [d] at d'
  injection d' with d1 _
  have : its = its' := by simpa using congrArg Array.toList d1
  subst this
  exact r.inj r'
end
abbrev Cx.wish (X : Cx) (E : Value → Shared → Prop) : Cx := { X with xe := E }
abbrev Cx.nox (X : Cx) : Cx := X.wish fun _ _ => False
theorem Cx.Ok.wish {X : Cx} (ok : X.Ok) (E : Value → Shared → Prop) : (X.wish E).Ok :=
  ⟨ok.mod, ok.kind, ok.glob, ok.blt, ok.above, ok.inj, ok.has, ok.cab, ok.hd, ok.frames, ok.stk, ok.exf, ok.bs, ok.bsz, ok.noex, ok.exfs, ok.funs, ok.frf⟩
theorem Cx.Ok.unwish {X : Cx} {E : Value → Shared → Prop} (ok : (X.wish E).Ok) : X.Ok :=
  ⟨ok.mod, ok.kind, ok.glob, ok.blt, ok.above, ok.inj, ok.has, ok.cab, ok.hd, ok.frames, ok.stk, ok.exf, ok.bs, ok.bsz, ok.noex, ok.exfs, ok.funs, ok.frf⟩
section
variable {X : Cx} {pins : List (Addr × Obj)} {σ : St} {H : Hp} {s : Shared} {E : Value → Shared → Prop}
theorem Inv.wish (I : Inv X pins σ H s) (E : Value → Shared → Prop) : Inv (X.wish E) pins σ H s := ⟨I.ok.wish E, I.os, I.bare, I.base, I.loc, I.cell, I.free, I.freeC, I.pin, I.hok, I.len⟩
theorem Inv.unwish (I : Inv (X.wish E) pins σ H s) : Inv X pins σ H s := ⟨I.ok.unwish, I.os, I.bare, I.base, I.loc, I.cell, I.free, I.freeC, I.pin, I.hok, I.len⟩
theorem SP.unwish {D : Ends} {f : Flow} {s' : Shared} (h : SP (X.wish E) pins D f s') : SP X pins D f s' := by
  cases f with
  | next => obtain ⟨σ', H', I, q⟩ := h; exact ⟨σ', H', I.unwish, q⟩
  | brk => obtain ⟨σ', H', I, q⟩ := h; exact ⟨σ', H', I.unwish, q⟩
  | cont => obtain ⟨σ', H', I, q⟩ := h; exact ⟨σ', H', I.unwish, q⟩
  | ret u => obtain ⟨v, σ', H', I, r, q⟩ := h; exact ⟨v, σ', H', I.unwish, r, q⟩
theorem PSs.nox {st : List Stmt} {t : TS} (h : PSs X.nox st t) : PSs X st t := fun pins s σ H D I hw =>
  wpAny_mono (h pins s σ H D (I.wish _) hw) (fun _ _ q => q.unwish) fun _ _ z => False.elim z
end
section
variable {X : Cx} {st : Stmt} {rest : List Stmt} {t u : TS} {e : Expr} {te : TE} {pos : Pos}
def tNext : TS := fun D σ H => D.nx σ H
def tSeq (t u : TS) : TS := fun D σ H => t { D with nx := u D } σ H
theorem pss_nil : PSs X [] tNext := fun _ _ σ H _ I h => wpAny_execs_nil ⟨σ, H, I, h⟩
theorem pss_cons (h1 : PS X st t) (h2 : PSs X rest u) : PSs X (st :: rest) (tSeq t u) := by
  intro pins s σ H D I h
  refine wpAny_execs_cons (thn (h1 pins s σ H { D with nx := u D } I h) fun f s1 q => ?_)
  cases f with
  | next =>
    obtain ⟨σ', H', I', q⟩ := q
    exact h2 pins s1 σ' H' D I' q
  | ret v => exact q
  | brk => exact q
  | cont => exact q
theorem pss_one (h1 : PS X st t) : PSs X [st] t := by
  intro pins s σ H D I h
  refine wpAny_execs_cons (thn (h1 pins s σ H D I h) fun f s1 q => ?_)
  cases f with
  | next => exact wpAny_execs_nil q
  | ret v => exact q
  | brk => exact q
  | cont => exact q
theorem Inv.quiet {pins : List (Addr × Obj)} {σ : St} {H : Hp} {s : Shared} (I : Inv X pins σ H s) : interactive X.env = false := by simp [interactive, I.ok.kind]
def tDrop (te : TE) : TS := fun D σ H => te σ H fun _ H1 => D.nx σ H1
theorem ps_expr (he : PE X e te) (hs : swapsWith e none pos.line X.env = pure false := by rfl) : PS X (.Expr e pos) (tDrop te) := by
  intro pins s σ H D I h
  exact wpAny_Expr_any (thn (he pins s σ H _ I h) fun v s1 ⟨x, H1, I1, r1, q1⟩ => ⟨σ, H1, I1, q1⟩) I.quiet hs
def tRet (te : TE) : TS := fun D σ H => te σ H D.rt
theorem ps_ret (he : PE X e te) : PS X (.Return (some e) pos) (tRet te) := by
  intro pins s σ H D I h
  exact wpAny_Return_some (thn (he pins s σ H _ I h) fun v s1 ⟨x, H1, I1, r1, q1⟩ => ⟨x, σ, H1, I1, r1, q1⟩)
def tIfS (c : TT) (t u : TS) : TS := fun D σ H => c σ H fun b H1 => if b = true then t D σ H1 else u D σ H1
theorem ps_if {c : Expr} {a b : List Stmt} {tc : TT} (hc : PT X c tc) (ha : PSs X a t) (hb : PSs X b u) : PS X (.If c a b pos) (tIfS tc t u) := by
  intro pins s σ H D I h
  refine wpAny_If (thn (hc pins s σ H _ I h) fun d s1 ⟨H1, I1, q1⟩ => ?_)
  cases d with
  | true => exact ha pins s1 σ H1 D I1 q1
  | false => exact hb pins s1 σ H1 D I1 q1
def tNever : TS := fun _ _ _ => False
theorem ps_never : PS X st tNever := fun _ _ _ _ _ _ h => h.elim
end
abbrev TG := V → St → Hp → (St → Hp → Prop) → Prop
abbrev TGs := List V → St → Hp → (St → Hp → Prop) → Prop
def PG (X : Cx) (target : Expr) (t : TG) : Prop :=
  ∀ (pins : List (Addr × Obj)) (s : Shared) (σ : St) (H : Hp) (v : V) (u : Value) (Q : St → Hp → Prop), Inv X pins σ H s → RelV v u → t v σ H Q →
    wpAny (model X.prog X.w) X.A (assign target X.env u) (fun _ s' => ∃ σ' H', Inv X pins σ' H' s' ∧ Q σ' H') X.xe s
def PGs (X : Cx) (ts : List Expr) (t : TGs) : Prop :=
  ∀ (pins : List (Addr × Obj)) (s : Shared) (σ : St) (H : Hp) (vs : List V) (us : List Value) (Q : St → Hp → Prop), Inv X pins σ H s → Vals vs us → t vs σ H Q →
    wpAny (model X.prog X.w) X.A (assignInOrder ((assignEach ts X.env).map (·.2)) us) (fun _ s' => ∃ σ' H', Inv X pins σ' H' s' ∧ Q σ' H') X.xe s
abbrev TSet := V → V → V → Hp → (Hp → Prop) → Prop
def PSet (X : Cx) (t : TSet) : Prop :=
  ∀ (pins : List (Addr × Obj)) (s : Shared) (σ : St) (H : Hp) (o i v : V) (ov iv u : Value) (Q : Hp → Prop), Inv X pins σ H s → RelV o ov → RelV i iv → RelV v u → t o i v H Q →
    wpAny (model X.prog X.w) X.A (setItem ov iv u) (fun _ s' => ∃ H', Inv X pins σ H' s' ∧ Q H') X.xe s
section
variable {X : Cx} {pos : Pos}
def gName (i : Nat) : TG := fun v σ H Q => Q (σ.set i (some v)) H
theorem pg_name {i : Nat} {x : Str} (hN : X.N.Nodup) (hi : X.N[i]? = some x) (hx : Loc X.env.scope x) (hf : X.fn x = true ∨ X.env.scope.names.lookup x = some .local := by first | exact .inl rfl | exact .inr rfl | assumption) : PG X (.Name x pos) (gName i) := by
  intro pins s σ H v u Q I r h
  exact wpAny_assign_Name (store_ok I hN hi hx r (fun s' I' => ⟨_, H, I', h⟩) hf)
def gNil : TGs := fun vs σ H Q => vs = [] ∧ Q σ H
def gCons (t : TG) (u : TGs) : TGs := fun vs σ H Q => ∃ v r, vs = v :: r ∧ t v σ H fun σ' H' => u r σ' H' Q
theorem pgs_nil : PGs X [] gNil := by
  intro pins s σ H vs us Q I r h
  obtain ⟨e, h⟩ := h
  subst e
  cases r
  exact assignInOrder_nil ⟨σ, H, I, h⟩
theorem pgs_cons {e : Expr} {es : List Expr} {t : TG} {u : TGs} (h1 : PG X e t) (h2 : PGs X es u)
    (hs : (assignEach (e :: es) X.env).map (·.2) = assign e X.env :: (assignEach es X.env).map (·.2) := by rfl) : PGs X (e :: es) (gCons t u) := by
  intro pins s σ H vs us Q I r h
  obtain ⟨v, vr, e1, h⟩ := h
  subst e1
  cases r with
  | cons r rr =>
    rw [hs]
    refine assignInOrder_cons (thn (h1 pins s σ H _ _ _ I r h) fun _ s1 ⟨σ1, H1, I1, q1⟩ => ?_)
    exact h2 pins s1 σ1 H1 _ _ Q I1 rr q1
def gTup (K : PySem.W.Frag) (n : Nat) (t : TGs) : TG := fun v σ H Q => ∃ a xs, v = .ref a ∧ SqT K H a xs ∧ xs.length = n ∧ t xs σ H Q
theorem pg_tup {es : List Expr} {k : Nat} {t : TGs} {n : Nat} (hc : X.calm = true) (h : PGs X es t)
    (hn : (assignEach es X.env).length = n := by rfl) (hst : (assignEach es X.env).findIdx? (·.1) = none := by rfl) : PG X (.Tuple es k pos) (gTup X.K n t) := by
  intro pins s σ H v u Q I r hw
  obtain ⟨a, xs, e1, hq, hl, hw⟩ := hw
  subst e1
  cases r
  obtain ⟨its, rv, ht, hz⟩ := I.tuple hq
  refine assign_Tuple_tuple (I.ok.hd hc) ht (by simp [hn, ← hl, rv.length]) hst fun h' hx => ?_
  have I1 : Inv X pins σ H { s with heap := h' } := I.kept (t' := s.toks) fun b o e => hx b o (Nat.ne_of_lt (Heap.lt_size e)) e
  exact h pins _ σ H xs _ Q I1 (by simpa using rv) hw
def gSub (to ti : TE) (t : TSet) : TG := fun v σ H Q => to σ H fun o H1 => ti σ H1 fun i H2 => t o i v H2 fun H3 => Q σ H3
theorem pg_sub {o i : Expr} {to ti : TE} {t : TSet} (ho : PE X o to) (hi : PE X i ti) (hs : PSet X t)
    (ha : ∀ v, assign (.Subscript o i pos) X.env v = (do
      let ov ← holding [v] (eval o X.env)
      let iv ← holding [v, ov] (eval i X.env)
      standAt pos
      holding [v, ov, iv] (setItem ov iv v)
      release [v, ov, iv] []) := by intro _; rfl) : PG X (.Subscript o i pos) (gSub to ti t) := by
  intro pins s σ H v u Q I r h
  rw [ha]
  refine wpAny_bind (wpAny_holding (thn (ho pins s σ H _ I h) fun ov s1 ⟨x, H1, I1, r1, q1⟩ => ?_))
  refine wpAny_bind (wpAny_holding (thn (hi pins s1 σ H1 _ I1 q1) fun iv s2 ⟨y, H2, I2, r2, q2⟩ => ?_))
  refine wpAny_bind (wpAny_standAt (wpAny_bind (wpAny_holding (thn (hs pins s2 σ H2 x y v ov iv u _ I2 r1 r2 r q2) fun _ s3 ⟨H3, I3, q3⟩ => ?_))))
  exact wpAny_release ⟨σ, H3, I3, q3⟩
def tAsg (te : TE) (g : TG) : TS := fun D σ H => te σ H fun x H1 => g x σ H1 D.nx
theorem ps_asg {tg e : Expr} {te : TE} {g : TG} (he : PE X e te) (hg : PG X tg g) (hs : swapsWithSole [tg] e pos.line X.env = pure false := by rfl) (hw : swappedStores [tg] e X.env = pure none := by rfl)
    (h1 : (assignEach [tg] X.env).map (·.2) = [assign tg X.env] := by rfl) : PS X (.Assign [tg] e pos) (tAsg te g) := by
  intro pins s σ H D I h
  refine wpAny_Assign_stores (thn (he pins s σ H _ I h) fun v s1 ⟨x, H1, I1, r1, q1⟩ => ?_) hs hw
  rw [h1]
  exact thn (hg pins s1 σ H1 x v _ I1 r1 q1) fun _ s2 q => q
theorem ps_set {i : Nat} {x : Str} {e : Expr} {te : TE} {pos' : Pos} (hN : X.N.Nodup) (hi : X.N[i]? = some x) (hx : Loc X.env.scope x) (he : PE X e te) (hs : swapsWith e (some (.Name x pos')) pos.line X.env = pure false := by rfl) (hf : X.fn x = true ∨ X.env.scope.names.lookup x = some .local := by first | exact .inl rfl | exact .inr rfl | assumption) :
    PS X (.Assign [.Name x pos'] e pos) (tAsg te (gName i)) := by
  intro pins s σ H D I h
  refine wpAny_Assign_Name (thn (he pins s σ H _ I h) fun v s1 ⟨y, H1, I1, r1, q1⟩ => ?_) hs
  exact store_ok I1 hN hi hx r1 (fun s2 I2 => ⟨_, H1, I2, q1⟩) hf
end
section
variable {X : Cx} {pos : Pos}
end
structure It where
  go : Nat → Hp → Prop
  yld : Nat → Hp → V → Hp → Prop
  stop : Nat → Hp → Prop
def FpOk (X : Cx) (pins : List (Addr × Obj)) (H : Hp) (b : Addr) : Prop :=
  H b = none ∧ b ≠ X.env.locals ∧ b ∉ X.fs ∧ (b ∈ X.ex ∨ X.s₀.heap.objs.size ≤ b) ∧ (∀ x c, X.env.cells.lookup x = some c → c ≠ b) ∧ ∀ p ∈ X.pn ++ pins, p.1 ≠ b
theorem Inv.fpOk {X : Cx} {pins : List (Addr × Obj)} {σ : St} {H H' : Hp} {s : Shared} {b : Addr} (I : Inv X pins σ H s) (hb : s.heap.objs.size ≤ b) (hn : H' b = none) : FpOk X pins H' b := by
  refine ⟨hn, Nat.ne_of_gt (Nat.lt_of_lt_of_le I.lt hb), I.nofs hb, .inr (Nat.le_trans I.sz hb), fun x c e z => ?_, fun p hp z => ?_⟩
  · obtain ⟨v, q⟩ := I.cell x c e
    exact absurd (Nat.lt_of_lt_of_le q.lt (by rw [z]; exact hb)) (Nat.lt_irrefl _)
  · exact absurd (Nat.lt_of_lt_of_le (Heap.lt_size (I.pin p hp).1) (by rw [z]; exact hb)) (Nat.lt_irrefl _)
structure Turn (P : Program) (w : World) (K : PySem.W.Frag) (tg : Expr) (J : It) (fp : List Addr) (it : Addr) (tn : Nat → Heap → Prop) : Prop where
  mem : it ∈ fp
  obj : ∀ i h, tn i h → ∀ b ∈ fp, ∃ o, h.get? b = some o ∧ ∀ v, o.data ≠ .cell v
  keep : ∀ i h h', tn i h → (∀ b ∈ fp, ∀ o, h.get? b = some o → h'.get? b = some o) → tn i h'
  item : ∀ (X : Cx), X.prog = P → X.w = w → X.K = K → X.calm = true → ∀ (i : Nat) (pins : List (Addr × Obj)) (s : Shared) (σ : St) (H : Hp) (E : Value → Shared → Prop), Inv X pins σ H s → (∀ b ∈ fp, FpOk X pins H b) → tn i s.heap → J.go i H →
    wpAny (model P w) X.A (pyNext (.ref it)) (fun r s1 => ∃ u, r = some u ∧
      wpAny (model P w) X.A (letOwnedTupleGo tg (.ref it) u) (fun _ s2 => ∃ x H', Inv X pins σ H' s2 ∧ RelV x u ∧ J.yld i H x H' ∧ tn (i + 1) s2.heap ∧ ∀ b ∈ fp, H' b = none) E s1) E s
  done : ∀ (X : Cx), X.prog = P → X.w = w → X.K = K → X.calm = true → ∀ (i : Nat) (pins : List (Addr × Obj)) (s : Shared) (σ : St) (H : Hp) (E : Value → Shared → Prop), Inv X pins σ H s → (∀ b ∈ fp, FpOk X pins H b) → tn i s.heap → J.stop i H →
    wpAny (model P w) X.A (pyNext (.ref it)) (fun r s1 => r = none ∧ Inv X pins σ H s1) E s
  self : ∀ (A : Around) (i : Nat) (s : Shared) (Q : Value → Shared → Prop) (E : Value → Shared → Prop), tn i s.heap → Q (.ref it) s → wpAny (model P w) A (pyIter (.ref it)) Q E s
abbrev TI := St → Hp → (It → Hp → Prop) → Prop
def PIE (X : Cx) (pins : List (Addr × Obj)) (σ : St) (tg : Expr) (R : It → Hp → Prop) (itv : Value) (s2 : Shared) : Prop :=
  ∃ (it : Addr) (fp : List Addr) (tn : Nat → Heap → Prop) (J : It) (H' : Hp), itv = .ref it ∧ Inv X pins σ H' s2 ∧ Turn X.prog X.w X.K tg J fp it tn ∧ tn 0 s2.heap ∧ (∀ b ∈ fp, FpOk X pins H' b) ∧ R J H'
def PI (X : Cx) (tg iter : Expr) (wi : TI) : Prop :=
  ∀ (pins : List (Addr × Obj)) (s : Shared) (σ : St) (H : Hp) (R : It → Hp → Prop), Inv X pins σ H s → wi σ H R →
    wpAny (model X.prog X.w) X.A (eval iter X.env) (fun v s1 => wpAny (model X.prog X.w) X.A (pyIter v) (PIE X pins σ tg R) X.xe s1) X.xe s
theorem go_of {M : Model} {A : Around} {E : Value → Shared → Prop} {s : Shared} {tg : Expr} {it : Addr} {u : Value} {o : Obj} {n : String} {vs : Array Value} {Q : Unit → Shared → Prop} (ho : s.heap.get? it = some o) (hc : o.cls = .type n) (hd : o.data = .fields vs)
    (hn : ["enumerate", "zip", "dict_itemiterator", "dict_reverseitemiterator", "odict_iterator", "itertools.zip_longest", "itertools.pairwise"].contains n = false) (hQ : Q () s) : wpAny M A (letOwnedTupleGo tg (.ref it) u) Q E s := by
  unfold letOwnedTupleGo
  cases tg <;> first
    | exact wpAny_pure hQ
    | (cases u <;> first
        | exact wpAny_pure hQ
        | (refine wpAny_bind (wpAny_load ho ?_)
           rw [hc, hd]
           show wpAny M A (if (["enumerate", "zip", "dict_itemiterator", "dict_reverseitemiterator", "odict_iterator", "itertools.zip_longest", "itertools.pairwise"].contains n && vs[0]? == some (rawInt _)) = true then _ else _) Q E s
           rw [if_neg (by intro h; rw [hn, Bool.false_and] at h; cases h)]
           exact wpAny_pure hQ))
def Itl (K : PySem.W.Frag) (a : Addr) : It :=
  ⟨fun i H => ∃ xs x, SqL K H a xs ∧ xs[i]? = some x, fun i H x H' => H' = H ∧ ∀ xs, SqL K H a xs → xs[i]? = some x, fun i H => ∃ xs, SqL K H a xs ∧ xs.length ≤ i⟩
def Itt (K : PySem.W.Frag) (a : Addr) : It :=
  ⟨fun i H => ∃ xs x, SqT K H a xs ∧ xs[i]? = some x, fun i H x H' => H' = H ∧ ∀ xs, SqT K H a xs → xs[i]? = some x, fun i H => ∃ xs, SqT K H a xs ∧ xs.length ≤ i⟩
def Itr (lo : Int) (n : Nat) : It := ⟨fun i _ => i < n, fun i H x H' => H' = H ∧ x = .int (lo + i), fun i _ => n ≤ i⟩
theorem turn_list {P : Program} {w : World} {K : PySem.W.Frag} {tg : Expr} (a it : Addr) : Turn P w K tg (Itl K a) [it] it (fun i h => h.IsListIter it a i) where
  mem := by simp
  obj := fun i h st b hb => by
    have e : b = it := by simpa using hb
    subst e
    obtain ⟨o, e, c, d⟩ := st
    exact ⟨o, e, fun v z => by rw [d] at z; cases z⟩
  keep := fun i h h' st k => st.at fun o e => k it (by simp) o e
  item := by
    intro X hP hw hK hc i pins s σ H E I hf st hg
    subst hP hw hK
    obtain ⟨xs, x, hq, hx⟩ := hg
    obtain ⟨its, rv, p, hz⟩ := I.list hq
    obtain ⟨u, hu, ru⟩ := rv.get hx
    obtain ⟨f0, f1, f2, f3, f4, f5⟩ := hf it (by simp)
    refine wpAny_pyNext_list_item st p.isList (x := u) (by simpa using hu) fun h' st' sb => ?_
    have I1 : Inv X pins σ H { s with heap := h' } := I.turned (t' := s.toks) (fun b o hb e => (sb.2 b hb).trans e) f0 f1 f3 f4 f5
    obtain ⟨o, e, c, d⟩ := id st'
    exact ⟨u, rfl, go_of (s := { s with heap := h' }) e c d (by decide) ⟨x, H, I1, ru, ⟨rfl, fun ys hy => by rw [I.list_inj hy hq]; exact hx⟩, st', fun b hb => (hf b hb).1⟩⟩
  done := by
    intro X hP hw hK hc i pins s σ H E I hf st hg
    subst hP hw hK
    obtain ⟨xs, hq, hx⟩ := hg
    obtain ⟨its, rv, p, hz⟩ := I.list hq
    obtain ⟨f0, f1, f2, f3, f4, f5⟩ := hf it (by simp)
    have hl := rv.length
    exact wpAny_pyNext_list_end (I.ok.hd hc) st p.isList (by simp; omega) fun h' eb => ⟨rfl, I.turned (t' := s.toks) (fun b o hb e => eb b o hb e) f0 f1 f3 f4 f5⟩
  self := fun _ _ _ _ _ st h => wpAny_pyIter_listiter st h
theorem turn_tuple {P : Program} {w : World} {K : PySem.W.Frag} {tg : Expr} (a it : Addr) : Turn P w K tg (Itt K a) [it] it (fun i h => h.IsTupleIter it a i) where
  mem := by simp
  obj := fun i h st b hb => by
    have e : b = it := by simpa using hb
    subst e
    obtain ⟨o, e, c, d⟩ := st
    exact ⟨o, e, fun v z => by rw [d] at z; cases z⟩
  keep := fun i h h' st k => st.at fun o e => k it (by simp) o e
  item := by
    intro X hP hw hK hc i pins s σ H E I hf st hg
    subst hP hw hK
    obtain ⟨xs, x, hq, hx⟩ := hg
    obtain ⟨its, rv, p, hz⟩ := I.tuple hq
    obtain ⟨u, hu, ru⟩ := rv.get hx
    obtain ⟨f0, f1, f2, f3, f4, f5⟩ := hf it (by simp)
    refine wpAny_pyNext_tuple_item st (show s.heap.IsTuple a its.toArray from p) (x := u) (by simpa using hu) fun h' st' sb => ?_
    have I1 : Inv X pins σ H { s with heap := h' } := I.turned (t' := s.toks) (fun b o hb e => (sb.2 b hb).trans e) f0 f1 f3 f4 f5
    obtain ⟨o, e, c, d⟩ := id st'
    exact ⟨u, rfl, go_of (s := { s with heap := h' }) e c d (by decide) ⟨x, H, I1, ru, ⟨rfl, fun ys hy => by rw [I.tuple_inj hy hq]; exact hx⟩, st', fun b hb => (hf b hb).1⟩⟩
  done := by
    intro X hP hw hK hc i pins s σ H E I hf st hg
    subst hP hw hK
    obtain ⟨xs, hq, hx⟩ := hg
    obtain ⟨its, rv, p, hz⟩ := I.tuple hq
    obtain ⟨f0, f1, f2, f3, f4, f5⟩ := hf it (by simp)
    have hl := rv.length
    exact wpAny_pyNext_tuple_end (I.ok.hd hc) st (show s.heap.IsTuple a its.toArray from p) (by simp; omega) fun h' eb => ⟨rfl, I.turned (t' := s.toks) (fun b o hb e => eb b o hb e) f0 f1 f3 f4 f5⟩
  self := fun _ _ _ _ _ st h => wpAny_pyIter_tupleiter st h
theorem turn_range {P : Program} {w : World} {K : PySem.W.Frag} {tg : Expr} (it : Addr) (lo : Int) (n : Nat) : Turn P w K tg (Itr lo n) [it] it (fun i h => IsRangeIter h it (lo + (i : Nat) * 1) ((n : Int) - (i : Nat)) 1) where
  mem := by simp
  obj := fun i h st b hb => by
    have e : b = it := by simpa using hb
    subst e
    exact ⟨_, st, fun v z => by
      have z' : Data.fields _ = Data.cell v := z
      cases z'⟩
  keep := fun i h h' st k => k it (by simp) _ st
  item := by
    intro X hP hw hK hc i pins s σ H E I hf st hg
    subst hP hw hK
    obtain ⟨f0, f1, f2, f3, f4, f5⟩ := hf it (by simp)
    have W := Walks.range (prog := X.prog) (w := X.w) (I.ok.hd hc) it lo 1 n
    refine W.item i s _ _ hg st fun v h' tk hv st' kk => ?_
    obtain ⟨t, rfl⟩ := hv
    have I1 : Inv X pins σ H { s with heap := h', toks := tk } := I.turned (fun b o hb e => kk b o (by simpa using hb) e) f0 f1 f3 f4 f5
    refine ⟨_, rfl, go_of (s := { s with heap := h', toks := tk }) (n := "range_iterator") st' rfl rfl (by decide) ⟨.int (lo + i), H, I1, ⟨t, ?_⟩, ⟨rfl, rfl⟩, st', fun b hb => (hf b hb).1⟩⟩
    rw [Int.mul_one]
  done := by
    intro X hP hw hK hc i pins s σ H E I hf st hg
    subst hP hw hK
    obtain ⟨f0, f1, f2, f3, f4, f5⟩ := hf it (by simp)
    exact wpAny_pyNext_range_end (I.ok.hd hc) st (by have : n ≤ i := hg; omega) fun h' eb => ⟨rfl, I.turned (t' := s.toks) (fun b o hb e => eb b o hb e) f0 f1 f3 f4 f5⟩
  self := fun _ _ _ _ _ st h => wpAny_pyIter_rangeiter st h
end L2
namespace L2
open PySem PySem.Spec PyProof.Rows
section
variable {X : Cx} {tg : Expr}
theorem range_it {pins : List (Addr × Obj)} {σ : St} {H : Hp} {s : Shared} {R : It → Hp → Prop} {E : Value → Shared → Prop} {lo hi : Int} {t u v : Tok} {tk : Nat} (I : Inv X pins σ H s) (h1 : -(2 ^ 62) ≤ lo) (h2 : lo < 2 ^ 62) (h3 : -(2 ^ 62) ≤ hi) (h4 : hi < 2 ^ 62)
    (q : R (Itr lo (hi - lo).toNat) H) : wpAny (model X.prog X.w) X.A (pyIter (.ref s.heap.objs.size)) (PIE X pins σ tg R) E { s with heap := s.heap.push { cls := .type "range", data := .fields #[.int lo t, .int hi u, .int 1 v] }, toks := tk } := by
  refine wpAny_pyIter_range (IsRange.new ..) (small_one h1 h2 h3 h4) ?_
  have I1 : Inv X pins σ H { s with heap := s.heap.push { cls := .type "range", data := .fields #[.int lo t, .int hi u, .int 1 v] }, toks := tk } := I.kept fun b o e => Heap.get?_push_of_some _ e
  refine ⟨(s.heap.push { cls := .type "range", data := .fields #[.int lo t, .int hi u, .int 1 v] }).objs.size, [(s.heap.push { cls := .type "range", data := .fields #[.int lo t, .int hi u, .int 1 v] }).objs.size], _, _, H, rfl,
    I1.kept (t' := tk) fun b o e => Heap.get?_push_of_some _ e, turn_range _ lo (hi - lo).toNat, ?_, fun b hb => ?_, q⟩
  · have e1 : lo + ((0 : Nat) : Int) * 1 = lo := by simp
    have e2 : (((hi - lo).toNat : Nat) : Int) - ((0 : Nat) : Int) = Builtin.Range.rangeSize lo hi 1 := by rw [rangeSize_one]; split <;> omega
    show IsRangeIter _ _ (lo + ((0 : Nat) : Int) * 1) ((((hi - lo).toNat : Nat) : Int) - ((0 : Nat) : Int)) 1
    rw [e1, e2]
    exact Heap.get?_push_size _ rfl
  · have e : b = (s.heap.push { cls := .type "range", data := .fields #[.int lo t, .int hi u, .int 1 v] }).objs.size := by simpa using hb
    subst e
    exact I1.fpOk (Nat.le_refl _) (I1.hok.fresh (Nat.le_refl _))
def iRng1 (ta : TA) : TI := fun σ H R => ta σ H fun vs H1 => ∃ j : Int, vs = [.int j] ∧ -(2 ^ 62) ≤ j ∧ j < 2 ^ 62 ∧ R (Itr 0 j.toNat) H1
theorem pi_range1 {a : Expr} {ta : TA} {p pos : Pos} (hg : Gl X "range") (hm : X.mg "range" = none) (ha : PA X [a] ta) (hs : starEach [a] X.env = [(false, eval a X.env)] := by rfl) : PI X tg (.Call (.Name "range" p) [a] [] pos) (iRng1 ta) := by
  intro pins s σ H R I h
  refine Call_ (ld_blt I hg hm boot_range (PyProof.Rows.callWith_type1 (thn (ha pos pins s σ H _ I h) fun us s1 ⟨vs, H1, I1, r1, q1⟩ => ?_) hs rfl))
  obtain ⟨j, e, q1, q2, q⟩ := q1
  subst e
  cases r1 with
  | cons r rr =>
    cases rr
    obtain ⟨t, rfl⟩ := r
    exact call_range_1 (range_it I1 (by omega) (by omega) q1 q2 (by simpa using q))
def tFor (wi : TI) (g : TG) (tb : TS) : TS := fun D σ H => wi σ H fun J H1 => ∃ W : Nat → Nat → St → Hp → Prop, (∃ m, W 0 m σ H1) ∧ ∀ i m σ H, W i m σ H →
  (J.stop i H ∧ D.nx σ H) ∨ (J.go i H ∧ ∃ N : St → Hp → Prop, (∀ σ' H', N σ' H' → ∃ m', m' < m ∧ W (i + 1) m' σ' H') ∧ ∀ x H', J.yld i H x H' → g x σ H' fun σ2 H2 => tb { D with nx := N, ct := N, bk := D.nx } σ2 H2)
def pinsAt (fp : List Addr) (h : Heap) : List (Addr × Obj) := fp.filterMap fun b => (h.get? b).map fun o => (b, o)
theorem mem_pinsAt {fp : List Addr} {h : Heap} {b : Addr} {o : Obj} (hb : b ∈ fp) (e : h.get? b = some o) : (b, o) ∈ pinsAt fp h := List.mem_filterMap.mpr ⟨b, hb, by rw [e]; rfl⟩
theorem of_pinsAt {fp : List Addr} {h : Heap} {p : Addr × Obj} (hp : p ∈ pinsAt fp h) : p.1 ∈ fp ∧ h.get? p.1 = some p.2 := by
  obtain ⟨b, hb, e⟩ := List.mem_filterMap.mp hp
  cases q : h.get? b with
  | none => rw [q] at e; cases e
  | some o =>
    rw [q] at e
    have e' : (b, o) = p := Option.some.inj e
    subst e'
    exact ⟨hb, q⟩
theorem Inv.pinned {pins : List (Addr × Obj)} {σ : St} {H : Hp} {s : Shared} {fp : List Addr} (I : Inv X pins σ H s) (hf : ∀ b ∈ fp, FpOk X pins H b) (ho : ∀ b ∈ fp, ∃ o, s.heap.get? b = some o ∧ ∀ v, o.data ≠ .cell v) : Inv X (pins ++ pinsAt fp s.heap) σ H s :=
  I.pins_of fun p hp => (List.mem_append.mp hp).elim (fun z => I.pin p (List.mem_append_right _ z)) fun z => by
    obtain ⟨hb, e⟩ := of_pinsAt z
    obtain ⟨f0, f1, f2, _⟩ := hf p.1 hb
    obtain ⟨o, e', d⟩ := ho p.1 hb
    rw [e] at e'; cases e'
    exact ⟨e, f0, f1, f2, d⟩
theorem Inv.unpinned {pins pl : List (Addr × Obj)} {σ : St} {H : Hp} {s : Shared} (I : Inv X (pins ++ pl) σ H s) : Inv X pins σ H s := I.pins_of fun p hp => I.pin p (List.mem_append_right _ (List.mem_append_left _ hp))
theorem ps_for {iter : Expr} {body : List Stmt} {wi : TI} {g : TG} {tb : TS} {pos : Pos} (hp : PassesOwn (model X.prog X.w) X.A X.env X.xe) (hc : X.calm = true) (hi : PI X tg iter wi) (hg : PG X tg g) (hb : PSs X body tb)
    (hs : ∀ x, foldedSetIterable iter X.env x = pure x := by intro _; rfl) : PS X (.For tg iter body [] pos) (tFor wi g tb) := by
  intro pins s σ H D I h
  refine wpAny_For (thn (hi pins s σ H _ I h) fun v s1 h1 => thn h1 fun itv s2 h2 => ?_) hs
  obtain ⟨it, fp, tn, J, H2, e, I2, T, st2, f2, W, ⟨m0, w0⟩, turn⟩ := h2
  subst e
  -- what stays true of the iterator's objects through the loop
  have stat : ∀ {H' : Hp}, (∀ b ∈ fp, H' b = none) → ∀ b ∈ fp, FpOk X pins H' b := fun hn b hb => ⟨hn b hb, (f2 b hb).2⟩
  refine codeAny_forLoop_any (fun n s' => ∃ i σ' H', Inv X pins σ' H' s' ∧ tn i s'.heap ∧ (∀ b ∈ fp, H' b = none) ∧ W i n σ' H') ?_ m0 ⟨0, σ, H2, I2, st2, fun b hb => (f2 b hb).1, w0⟩
  rintro n s3 ⟨i, σ3, H3, I3, st3, fr3, w3⟩
  rcases turn i n σ3 H3 w3 with ⟨stop, qn⟩ | ⟨go, N, hN, step⟩
  · refine wpAny_passesOwn hp (thn (T.done X rfl rfl rfl hc i pins s3 σ3 H3 X.xe I3 (stat fr3) st3 stop) fun r s4 ⟨hr, I4⟩ => ?_)
    subst hr
    exact wpAny_execs_nil ⟨σ3, H3, I4, qn⟩
  · refine wpAny_passesOwn hp (thn (T.item X rfl rfl rfl hc i pins s3 σ3 H3 X.xe I3 (stat fr3) st3 go) fun r s4 ⟨u, hr, h4⟩ => ?_)
    subst hr
    refine wpAny_passesOwn hp (thn h4 fun _ s5 ⟨x, H5, I5, r5, y5, st5, fr5⟩ => ?_)
    have I5' := I5.pinned (stat fr5) (T.obj _ _ st5)
    refine wpAny_passesOwn hp (thn (hg _ s5 σ3 H5 x u _ I5' r5 (step x H5 y5)) fun _ s6 ⟨σ6, H6, I6, q6⟩ => ?_)
    refine wpAny_passesOwn hp (thn (hb _ s6 σ6 H6 _ I6 q6) fun f s7 q7 => ?_)
    have again : ∀ {σ7 : St} {H7 : Hp}, Inv X (pins ++ pinsAt fp s5.heap) σ7 H7 s7 → N σ7 H7 → ∃ m, m < n ∧ ∃ i σ' H', Inv X pins σ' H' s7 ∧ tn i s7.heap ∧ (∀ b ∈ fp, H' b = none) ∧ W i m σ' H' := fun {σ7 H7} I7 n7 => by
      obtain ⟨m', hm, w7⟩ := hN σ7 H7 n7
      refine ⟨m', hm, i + 1, σ7, H7, I7.unpinned, T.keep _ _ _ st5 fun b hb o e => (I7.pin (b, o) (List.mem_append_right _ (List.mem_append_right _ (mem_pinsAt hb e)))).1, fun b hb => ?_, w7⟩
      obtain ⟨o, e, d⟩ := T.obj _ _ st5 b hb
      exact (I7.pin (b, o) (List.mem_append_right _ (List.mem_append_right _ (mem_pinsAt hb e)))).2.1
    cases f with
    | next => obtain ⟨σ7, H7, I7, n7⟩ := q7; exact again I7 n7
    | cont => obtain ⟨σ7, H7, I7, n7⟩ := q7; exact again I7 n7
    | brk => obtain ⟨σ7, H7, I7, q7⟩ := q7; exact ⟨σ7, H7, I7.unpinned, q7⟩
    | ret v => obtain ⟨x7, σ7, H7, I7, r7, q7⟩ := q7; exact ⟨x7, σ7, H7, I7.unpinned, r7, q7⟩
end
end L2
namespace L2
open PySem PySem.Spec PyProof.Rows
abbrev R2 := V → V → Hp → VK → Prop
def OpR (X : Cx) (f : Value → Value → Sem Value) (r : R2) : Prop :=
  ∀ (pins : List (Addr × Obj)) (s : Shared) (σ : St) (H : Hp) (x y : V) (v u : Value) (Q : VK), Inv X pins σ H s → RelV x v → RelV y u → r x y H Q →
    wpAny (model X.prog X.w) X.A (f v u) (EP X pins σ Q) X.xe s
def UnR (X : Cx) (f : Value → Sem Value) (r : V → Hp → VK → Prop) : Prop :=
  ∀ (pins : List (Addr × Obj)) (s : Shared) (σ : St) (H : Hp) (x : V) (v : Value) (Q : VK), Inv X pins σ H s → RelV x v → r x H Q →
    wpAny (model X.prog X.w) X.A (f v) (EP X pins σ Q) X.xe s
def CallR (X : Cx) (f : Value) (r : List V → Hp → VK → Prop) : Prop :=
  ∀ (pins : List (Addr × Obj)) (s : Shared) (σ : St) (H : Hp) (xs : List V) (us : List Value) (Q : VK), Inv X pins σ H s → Vals xs us → r xs H Q →
    wpAny (model X.prog X.w) X.A (call f us) (EP X pins σ Q) X.xe s
def tOp (r : R2) (ta tb : TE) : TE := fun σ H Q => ta σ H fun x H1 => tb σ H1 fun y H2 => r x y H2 Q
def tUn (r : V → Hp → VK → Prop) (ta : TE) : TE := fun σ H Q => ta σ H fun x H1 => r x H1 Q
def rI (C : Int → Int → Prop) (g : Int → Int → V) : R2 := fun x y H Q => ∃ i j, x = .int i ∧ y = .int j ∧ C i j ∧ Q (g i j) H
def rI0 (g : Int → Int → V) : R2 := fun x y H Q => ∃ i j, x = .int i ∧ y = .int j ∧ Q (g i j) H
def rU (g : Int → V) : V → Hp → VK → Prop := fun x H Q => ∃ i, x = .int i ∧ Q (g i) H
section
variable {X : Cx} {a b c : Expr} {ta tb tc : TE} {pos : Pos}
theorem binT (ha : PE X a ta) (hb : PE X b tb) {pins : List (Addr × Obj)} {s : Shared} {σ : St} {H : Hp} {R : V → V → Hp → Prop} (I : Inv X pins σ H s)
    (h : ta σ H fun x H1 => tb σ H1 fun y H2 => R x y H2) {Q : Value → Shared → Prop} {f : Value → Value → Sem Value}
    (hf : ∀ v u s2 x y H2, Inv X pins σ H2 s2 → RelV x v → RelV y u → R x y H2 → wpAny (model X.prog X.w) X.A (f v u) Q X.xe s2) :
    wpAny (model X.prog X.w) X.A (eval a X.env) (fun v s₁ => wpAny (model X.prog X.w) X.A (eval b X.env) (fun u s₂ => wpAny (model X.prog X.w) X.A (f v u) Q X.xe s₂) X.xe s₁) X.xe s := by
  refine thn (ha pins s σ H _ I h) fun v s1 ⟨x, H1, I1, r1, q1⟩ => ?_
  refine thn (hb pins s1 σ H1 _ I1 q1) fun u s2 ⟨y, H2, I2, r2, q2⟩ => ?_
  exact hf v u s2 x y H2 I2 r1 r2 q2
theorem pe_op {op : Operator} {r : R2} (ho : OpR X (binaryOp op) r) (ha : PE X a ta) (hb : PE X b tb) : PE X (.BinOp a op b pos) (tOp r ta tb) := by
  intro pins s σ H Q I h
  exact wpAny_BinOp (binT ha hb I h fun v u s2 x y H2 I2 rx ry q => ho pins s2 σ H2 x y v u Q I2 rx ry q)
theorem pe_un {op : UnaryOp} {r : V → Hp → VK → Prop} (ho : UnR X (unaryOp op) r) (ha : PE X a ta) : PE X (.UnaryOp op a pos) (tUn r ta) := by
  intro pins s σ H Q I h
  exact UnaryOp_ (thn (ha pins s σ H _ I h) fun v s1 ⟨x, H1, I1, r1, q1⟩ => ho pins s1 σ H1 x v Q I1 r1 q1)
theorem opI {f : Value → Value → Sem Value} {C : Int → Int → Prop} {g : Int → Int → Int}
    (rule : ∀ (i j : Int) (t u : Tok) (s : Shared) (Q : Value → Shared → Prop) (E : Value → Shared → Prop), C i j → Q (.int (g i j) s.toks) { s with toks := s.toks + 1 } → wpAny (model X.prog X.w) X.A (f (.int i t) (.int j u)) Q E s) :
    OpR X f (rI C fun i j => .int (g i j)) := by
  intro pins s σ H x y v u Q I rx ry h
  obtain ⟨i, j, rfl, rfl, hc, q⟩ := h
  obtain ⟨t, rfl⟩ := rx
  obtain ⟨t', rfl⟩ := ry
  exact rule i j t t' s _ _ hc ⟨.int (g i j), H, I.tok _, ⟨_, rfl⟩, q⟩
theorem opI0 {f : Value → Value → Sem Value} {g : Int → Int → Int}
    (rule : ∀ (i j : Int) (t u : Tok) (s : Shared) (Q : Value → Shared → Prop) (E : Value → Shared → Prop), Q (.int (g i j) s.toks) { s with toks := s.toks + 1 } → wpAny (model X.prog X.w) X.A (f (.int i t) (.int j u)) Q E s) :
    OpR X f (rI0 fun i j => .int (g i j)) := by
  intro pins s σ H x y v u Q I rx ry h
  obtain ⟨i, j, rfl, rfl, q⟩ := h
  obtain ⟨t, rfl⟩ := rx
  obtain ⟨t', rfl⟩ := ry
  exact rule i j t t' s _ _ ⟨.int (g i j), H, I.tok _, ⟨_, rfl⟩, q⟩
theorem opB0 {f : Value → Value → Sem Value} {g : Int → Int → Bool}
    (rule : ∀ (i j : Int) (t u : Tok) (s : Shared) (Q : Value → Shared → Prop) (E : Value → Shared → Prop), Q (.bool (g i j)) s → wpAny (model X.prog X.w) X.A (f (.int i t) (.int j u)) Q E s) :
    OpR X f (rI0 fun i j => .bl (g i j)) := by
  intro pins s σ H x y v u Q I rx ry h
  obtain ⟨i, j, rfl, rfl, q⟩ := h
  obtain ⟨t, rfl⟩ := rx
  obtain ⟨t', rfl⟩ := ry
  exact rule i j t t' s _ _ ⟨.bl (g i j), H, I, rfl, q⟩
theorem op_add : OpR X (binaryOp .Add) (rI0 fun i j => .int (i + j)) := opI0 fun _ _ _ _ _ _ _ q => add_int q
theorem op_sub : OpR X (binaryOp .Sub) (rI0 fun i j => .int (i - j)) := opI0 fun _ _ _ _ _ _ _ q => sub_int q
theorem op_mod : OpR X (binaryOp .Mod) (rI (fun _ j => 0 < j) fun i j => .int (i % j)) := opI fun i j _ _ _ _ _ hc q => by
  have h1 : (0 : Int) < j := hc
  exact mod_int' (by omega) (by rw [Int.fmod_eq_emod_of_nonneg i (by omega)]; exact q)
theorem unI {f : Value → Sem Value} {g : Int → Int}
    (rule : ∀ (i : Int) (t : Tok) (s : Shared) (Q : Value → Shared → Prop) (E : Value → Shared → Prop), Q (.int (g i) s.toks) { s with toks := s.toks + 1 } → wpAny (model X.prog X.w) X.A (f (.int i t)) Q E s) :
    UnR X f (rU fun i => .int (g i)) := by
  intro pins s σ H x v Q I rx h
  obtain ⟨i, rfl, q⟩ := h
  obtain ⟨t, rfl⟩ := rx
  exact rule i t s _ _ ⟨.int (g i), H, I.tok _, ⟨_, rfl⟩, q⟩
theorem un_neg : UnR X (unaryOp .USub) (rU fun i => .int (-i)) := unI fun _ _ _ _ _ q => neg_int q
end
section
variable {X : Cx} {a b c : Expr} {ta tb tc : TE} {pos : Pos}
theorem fin_bl {pins : List (Addr × Obj)} {σ : St} {H : Hp} {s : Shared} {Q : VK} {k k' : Bool} (I : Inv X pins σ H s) (q : Q (.bl k) H) (e : k = k') : EP X pins σ Q (.bool k') s := by
  subst e
  exact ⟨.bl k, H, I, rfl, q⟩
theorem op_lt : OpR X (compareOp .Lt) (rI0 fun i j => .bl (decide (i < j))) := opB0 fun _ _ _ _ _ _ _ q => lt_int q
theorem op_le : OpR X (compareOp .LtE) (rI0 fun i j => .bl (decide (i ≤ j))) := opB0 fun _ _ _ _ _ _ _ q => le_int q
theorem op_gt : OpR X (compareOp .Gt) (rI0 fun i j => .bl (decide (j < i))) := opB0 fun _ _ _ _ _ _ _ q => gt_int q
theorem op_ge : OpR X (compareOp .GtE) (rI0 fun i j => .bl (decide (j ≤ i))) := opB0 fun _ _ _ _ _ _ _ q => ge_int q
theorem op_in_str : OpR X (compareOp .In) (fun x y H Q => ∃ i j, x = .str i ∧ y = .str j ∧ Q (.bl (!(Builtin.Str.occurrences j i 0 j.length 1).isEmpty)) H) := by
  intro pins s σ H x y v u Q I rx ry h
  obtain ⟨i, j, rfl, rfl, q⟩ := h
  obtain ⟨t, rfl⟩ := rx
  obtain ⟨t', rfl⟩ := ry
  exact in_str (fin_bl I q rfl)
theorem op_isN : OpR X (compareOp .Is) (fun x y H Q => y = .non ∧ Q (.bl (decide (x = .non))) H) := by
  intro pins s σ H x y v u Q I rx ry h
  obtain ⟨rfl, q⟩ := h
  cases ry
  refine is_none_gen (fin_bl I q ?_)
  cases x <;> first
    | (cases rx; rfl)
    | (obtain ⟨t, rfl⟩ := rx; rfl)
theorem op_notin_str : OpR X (compareOp .NotIn) (fun x y H Q => ∃ i j, x = .str i ∧ y = .str j ∧ Q (.bl (!(!(Builtin.Str.occurrences j i 0 j.length 1).isEmpty))) H) := by
  intro pins s σ H x y v u Q I rx ry h
  obtain ⟨i, j, rfl, rfl, q⟩ := h
  obtain ⟨t, rfl⟩ := rx
  obtain ⟨t', rfl⟩ := ry
  exact notIn_str (fin_bl I q rfl)
theorem OpR.or {f : Value → Value → Sem Value} {r r' : R2} (h : OpR X f r) (h' : OpR X f r') : OpR X f (fun x y H Q => r x y H Q ∨ r' x y H Q) := by
  intro pins s σ H x y v u Q I rx ry q
  rcases q with q | q
  · exact h pins s σ H x y v u Q I rx ry q
  · exact h' pins s σ H x y v u Q I rx ry q
theorem nomark (b : Expr) {op : CmpOp} (h : op ≠ .In := by decide) (h2 : op ≠ .NotIn := by decide) : behindInMarks op b = false := by
  have e1 : (op == CmpOp.In) = false := by cases op <;> first | rfl | exact absurd rfl h
  have e2 : (op == CmpOp.NotIn) = false := by cases op <;> first | rfl | exact absurd rfl h2
  cases b <;> simp [behindInMarks, e1, e2]
theorem pe_cmpR {op : CmpOp} {r : R2} (ho : OpR X (compareOp op) r) (ha : PE X a ta) (hb : PE X b tb) (hm : behindInMarks op b = false) : PE X (.Compare a [op] [b] pos) (tOp r ta tb) := by
  intro pins s σ H Q I h
  exact wpAny_Compare1 (binT ha hb I h fun v u s2 x y H2 I2 rx ry q => ho pins s2 σ H2 x y v u Q I2 rx ry q) hm
def tTest (t : TE) : TT := fun σ H Q => t σ H fun x H' => ∃ k, x = .bl k ∧ Q k H'
theorem pt_cmpR {op : CmpOp} {r : R2} (ho : OpR X (compareOp op) r) (ha : PE X a ta) (hb : PE X b tb) (hm : behindInMarks op b = false) : PT X (.Compare a [op] [b] pos) (tTest (tOp r ta tb)) := by
  intro pins s σ H Q I h
  refine wpAny_isTrue_Compare1 (thn (ha pins s σ H _ I h) fun v s1 ⟨x, H1, I1, r1, q1⟩ => thn (hb pins s1 σ H1 _ I1 q1) fun u s2 ⟨y, H2, I2, r2, q2⟩ =>
    thn (ho pins s2 σ H2 x y v u _ I2 r1 r2 q2) fun c s3 ⟨z, H3, I3, r3, k, e, q3⟩ => ?_) hm
  subst e
  cases r3
  exact wpAny_truthy_bool ⟨H3, I3, q3⟩
def tChain (r r' : R2) (ta tb tc : TE) : TE := fun σ H Q => ta σ H fun x H1 => tb σ H1 fun y H2 => r x y H2 fun z H3 => ∃ k, z = .bl k ∧
  (if k = true then tc σ H3 fun w' H4 => r' y w' H4 Q else Q (.bl false) H3)
theorem pt_chain {op op' : CmpOp} {r r' : R2} (ho : OpR X (compareOp op) r) (ho' : OpR X (compareOp op') r') (ha : PE X a ta) (hb : PE X b tb) (hc : PE X c tc)
    (hm : lastMarks [op, op'] [b, c] = false := by with_unfolding_all rfl) : PT X (.Compare a [op, op'] [b, c] pos) (tTest (tChain r r' ta tb tc)) := by
  intro pins s σ H Q I h
  refine isTrue_chain (thn (ha pins s σ H _ I h) fun v s1 ⟨x, H1, I1, r1, q1⟩ => test_link (thn (hb pins s1 σ H1 _ I1 q1) fun u s2 ⟨y, H2, I2, r2, q2⟩ =>
    thn (ho pins s2 σ H2 x y v u _ I2 r1 r2 q2) fun d s3 ⟨z, H3, I3, r3, k, e, q3⟩ => ?_)) hm
  subst e
  cases r3
  refine wpAny_truthy_bool ?_
  cases k with
  | false =>
    obtain ⟨k', e', q'⟩ := q3
    cases e'
    exact ite_ff ⟨H3, I3, q'⟩
  | true =>
    refine ite_tt (test_last (thn (hc pins s3 σ H3 _ I3 q3) fun w' s4 ⟨z', H4, I4, r4, q4⟩ => thn (ho' pins s4 σ H4 y z' u w' _ I4 r2 r4 q4) fun d' s5 ⟨z2, H5, I5, r5, k2, e2, q5⟩ => ?_))
    subst e2
    cases r5
    exact wpAny_truthy_bool ⟨H5, I5, q5⟩
theorem line63 : (sizeLine : Nat) < 2 ^ 63 := by rw [sizeLine_eq]; decide
theorem op_add_str : OpR X (binaryOp .Add) (fun x y H Q => ∃ i j, x = .str i ∧ y = .str j ∧ i.length + j.length ≤ sizeLine ∧ Q (.str (i ++ j)) H) := by
  intro pins s σ H x y v u Q I rx ry h
  obtain ⟨i, j, rfl, rfl, hz, q⟩ := h
  obtain ⟨t, rfl⟩ := rx
  obtain ⟨t', rfl⟩ := ry
  exact add_str (fun t' tk => ⟨.str (i ++ j), H, I.tok _, ⟨_, rfl⟩, q⟩) hz
theorem vals1 {x : V} {us : List Value} (r : Vals [x] us) : ∃ u, us = [u] ∧ RelV x u := by
  cases r with
  | cons r1 r2 => cases r2; exact ⟨_, rfl, r1⟩
theorem vals2 {x y : V} {us : List Value} (r : Vals [x, y] us) : ∃ u w', us = [u, w'] ∧ RelV x u ∧ RelV y w' := by
  cases r with
  | cons r1 r2 =>
    cases r2 with
    | cons r3 r4 => cases r4; exact ⟨_, _, rfl, r1, r3⟩
theorem call_max2 (hc : X.calm = true) : CallR X (.builtin "max") (fun xs H Q => ∃ i j, xs = [.int i, .int j] ∧ Q (.int (if j > i then j else i)) H) := by
  intro pins s σ H xs us Q I r h
  obtain ⟨i, j, rfl, q⟩ := h
  obtain ⟨u, w', rfl, ⟨t, rfl⟩, ⟨t', rfl⟩⟩ := vals2 r
  refine max_two_ints (I.ok.hd hc) fun h' tk k => ⟨_, H, I.kept k, ?_, q⟩
  by_cases hj : j > i
  · rw [if_pos hj, if_pos hj]; exact ⟨_, rfl⟩
  · rw [if_neg hj, if_neg hj]; exact ⟨_, rfl⟩
theorem call_min2 (hc : X.calm = true) : CallR X (.builtin "min") (fun xs H Q => ∃ i j, xs = [.int i, .int j] ∧ Q (.int (if j < i then j else i)) H) := by
  intro pins s σ H xs us Q I r h
  obtain ⟨i, j, rfl, q⟩ := h
  obtain ⟨u, w', rfl, ⟨t, rfl⟩, ⟨t', rfl⟩⟩ := vals2 r
  refine min_two_ints (I.ok.hd hc) fun h' tk k => ⟨_, H, I.kept k, ?_, q⟩
  by_cases hj : j < i
  · rw [if_pos hj, if_pos hj]; exact ⟨_, rfl⟩
  · rw [if_neg hj, if_neg hj]; exact ⟨_, rfl⟩
theorem call_int1 : CallR X (.type "int") (fun xs H Q => (∃ i, xs = [.int i] ∧ Q (.int i) H) ∨ ∃ k, xs = [.bl k] ∧ Q (.int (if k then 1 else 0)) H) := by
  intro pins s σ H xs us Q I r h
  rcases h with ⟨i, rfl, q⟩ | ⟨k, rfl, q⟩
  · obtain ⟨u, rfl, t, rfl⟩ := vals1 r
    exact call_int_int ⟨.int i, H, I, ⟨_, rfl⟩, q⟩
  · obtain ⟨u, rfl, r1⟩ := vals1 r
    cases r1
    exact call_int_bool ⟨.int (if k then 1 else 0), H, I.tok _, ⟨_, rfl⟩, q⟩
theorem call_str_int : CallR X (.type "str") (fun xs H Q => ∃ i, xs = [.int i] ∧ i.natAbs.log2 < 1920 ∧ Q (.str (toString i)) H) := by
  intro pins s σ H xs us Q I r h
  obtain ⟨i, rfl, hz, q⟩ := h
  obtain ⟨u, rfl, t, rfl⟩ := vals1 r
  exact PySem.P.str_of_int hz ⟨.str _, H, I.tok _, ⟨_, rfl⟩, q⟩
end
end L2
namespace L2
open PySem PySem.Spec PyProof.Rows
section
variable {prog : Program} {w : World} {A : Around} {E : Value → Shared → Prop} {s : Shared} {K : PySem.W.Frag} {x dx C f : Addr} {mA : Str → Option Value} {name : Str} {v : Value}
end
section
variable {P : Program} {w : World} {H H' : Hp} {h h' : Heap} {a C dx : Addr} {fs fs' : List (Str × V)}
end
section
variable {X : Cx} {pins : List (Addr × Obj)} {σ : St} {H : Hp} {s : Shared} {a C dx : Addr} {fs : List (Str × V)} {f : Str} {v : V} {A : Around} {E : Value → Shared → Prop}
end
section
variable {X : Cx} {o e value : Expr} {f : Str} {pos pos' tpos : Pos} {ta tv : TE}
end
section
variable {X : Cx} {pins : List (Addr × Obj)} {σ : St} {H : Hp} {s : Shared} {A : Around} {E : Value → Shared → Prop} {Q : Value → Shared → Prop} {c : Value} {b : Bool}
end
end L2
namespace L2
open PySem PySem.Spec PyProof.Rows
structure Room (k : Nat) (A : Around) : Prop where
  hd : A.handled = none
  dp : A.depth + 3 * k + 5 < recursionLimit
  un : A.units + 16 * k + 200 < cLine
theorem Room.mono {j k : Nat} {A : Around} (r : Room k A) (h : j ≤ k) : Room j A := ⟨r.hd, by have := r.dp; omega, by have := r.un; omega⟩
theorem Room.deeper {k : Nat} {A : Around} (r : Room (k + 1) A) (env : Env) : Room k (A.deeper env) :=
  ⟨r.hd, by have := r.dp; show A.depth + 1 + 3 * k + 5 < _; omega, by have := r.un; show A.units + 3 + 16 * k + 200 < _; omega⟩
theorem Room.depth {k : Nat} {A : Around} (r : Room k A) : A.depth < recursionLimit := by have := r.dp; omega
def tNil : TA := fun _ H Q => Q [] H
def tCons (ta : TE) (tr : TA) : TA := fun σ H Q => ta σ H fun x H1 => tr σ H1 fun xs H2 => Q (x :: xs) H2
section
variable {X : Cx} {e : Expr} {es : List Expr} {te : TE} {t : TA} {pos : Pos}
theorem pa_nil : PA X [] tNil := fun _ _ _ _ H Q I h => Calls.spliced_nil ⟨[], H, I, .nil, h⟩
theorem pa_cons (ha : PE X e te) (hr : PA X es t) (hs : starEach (e :: es) X.env = (false, eval e X.env) :: starEach es X.env := by rfl) : PA X (e :: es) (tCons te t) := by
  intro pos pins s σ H Q I h
  rw [hs]
  show wpAny _ _ (spliced ((false, eval e X.env) :: backTo pos (starEach es X.env))) _ _ s
  refine Calls.spliced_cons (thn (ha pins s σ H _ I h) fun u s1 ⟨x, H1, I1, r1, q1⟩ => ?_)
  exact thn (hr pos pins s1 σ H1 _ I1 q1) fun us s2 ⟨xs, H2, I2, r2, q2⟩ => ⟨x :: xs, H2, I2, .cons r1 r2, q2⟩
def tTup (t : TA) : TE := fun σ H Q => t σ H fun xs H1 => xs.length ≤ sizeLine ∧ ∀ p, H1 p = none → Q (.ref p) (upd H1 p (.tup xs))
def tLst (t : TA) : TE := fun σ H Q => t σ H fun xs H1 => xs.length ≤ sizeLine ∧ ∀ p, H1 p = none → Q (.ref p) (upd H1 p (.lst xs))
theorem pe_tup {x1} (h : PA X es t) : PE X (.Tuple es x1 pos) (tTup t) := by
  intro pins s σ H Q I hq
  refine wpAny_Tuple_spliced (thn (h pos pins s σ H _ I hq) fun us s1 ⟨xs, H1, I1, r, z, q⟩ => ⟨by rw [← r.length]; exact z, ?_⟩)
  have hf : H1 s1.heap.objs.size = none := I1.hok.fresh (Nat.le_refl _)
  refine ⟨.ref s1.heap.objs.size, upd H1 s1.heap.objs.size (.tup xs), I1.laid (t' := s1.toks) (fun b u e => Heap.get?_push_of_some _ e) (Nat.le_refl _) ?_, rfl, q _ hf⟩
  exact ⟨z, us, r, ⟨_, Heap.get?_push_size _ rfl, rfl, _, rfl⟩⟩
theorem pe_lst (h : PA X es t) : PE X (.List es pos) (tLst t) := by
  intro pins s σ H Q I hq
  refine wpAny_List_spliced (thn (h pos pins s σ H _ I hq) fun us s1 ⟨xs, H1, I1, r, z, q⟩ => ⟨by rw [← r.length]; exact z, ?_⟩)
  have hf : H1 s1.heap.objs.size = none := I1.hok.fresh (Nat.le_refl _)
  refine ⟨.ref s1.heap.objs.size, upd H1 s1.heap.objs.size (.lst xs), I1.laid (t' := s1.toks) (fun b u e => Heap.get?_push_of_some _ e) (Nat.le_refl _) ?_, rfl, q _ hf⟩
  exact ⟨z, us, 0, r, Heap.get?_push_size _ rfl⟩
end
abbrev Sp := List V → Hp → VK → XK → Prop
abbrev CXT := List Env → Hp → Shared → XK → Value → Shared → Prop
structure Env0 (P : Program) (w : World) (K : PySem.W.Frag) (mg : Str → Option Value) (base : Heap) (A : Around) (outer : List Env) (s : Shared) (H : Hp) : Prop where
  frames : A.frames = some outer
  mod : Mod K mg base
  bs : ∀ b o, base.get? b = some o → s.heap.get? b = some o ∧ H b = none
  bsz : base.objs.size ≤ s.heap.objs.size
  funs : s.heap.FunFrames base outer
  frf : ∀ b ∈ frs outer, H b = none
  hok : HOk P w H s.heap
  bare : AllBare s.gens
def CE (outer : List Env) (P : Program) (w : World) (H : Hp) (s : Shared) (Q : VK) (u : Value) (s' : Shared) : Prop :=
  ∃ v H', s'.os = s.os ∧ AllBare s'.gens ∧ Un (frs outer) [] H H' s.heap s'.heap ∧ HOk P w H' s'.heap ∧ RelV v u ∧ Q v H'
def CR (CX : CXT) (outer : List Env) (P : Program) (w : World) (H : Hp) (s : Shared) (Q : VK) (E : XK) (r : Result) (s' : Shared) : Prop :=
  match r with
  | .ok (.ret u) => CE outer P w H s Q u s'
  | .ok _ => False
  | .error e => CX outer H s E e s'
structure FnOk (P : Program) (w : World) (K : PySem.W.Frag) (mg : Str → Option Value) (base : Heap) (CX : CXT) (k : Nat) (f : Addr) (fd : FuncData) (ps : List Str) (sp : Sp) : Prop where
  len : ∀ vs H Q E, sp vs H Q E → vs.length = ps.length
  run : ∀ (A : Around) (outer : List Env) (s : Shared) (H : Hp) (args : Args) (us : List Value) (vs : List V) (Q : VK) (E : XK), Room k A → Env0 P w K mg base A outer s H → BindsTo s fd args (ps.zip us) → Vals vs us → sp vs H Q E →
    codeAny (model P w) A (.call (.ref f) args) (CR CX outer P w H s Q E) s
section
variable {X : Cx} {pins : List (Addr × Obj)} {σ : St} {H : Hp} {s s' : Shared}
theorem Inv.env0 (I : Inv X pins σ H s) : Env0 X.prog X.w X.K X.mg X.base X.A X.stack s H :=
  ⟨I.ok.frames, I.ok.mod, I.bs, Nat.le_trans I.ok.bsz I.sz, I.stack, I.stkFree, I.hok, I.bare⟩
theorem Inv.after {Q : VK} {u : Value} (I : Inv X pins σ H s) (h : CE X.stack X.prog X.w H s Q u s') : EP X pins σ Q u s' := by
  obtain ⟨v, H', os, bare, un, hok, r, q⟩ := h
  obtain ⟨hh, g, d, t, os'⟩ := s'
  obtain rfl : os' = s.os := os
  exact ⟨v, H', I.call (h' := hh) (g' := g) (d' := d) (t' := t) (ch := []) un hok bare (fun b z => absurd z (by simp)), r, q⟩
end
def tCall (sp : Sp) (dvs : List V) (E : XK) (t : TA) : TE := fun σ H Q => t σ H fun vs H1 => sp (vs ++ dvs) H1 Q E
def Binds (K : PySem.W.Frag) (fd : FuncData) (ps : List Str) (ds : List Value) : Prop :=
  ∀ (s : Shared) (us : List Value), K.In s.heap → (us ++ ds).length = ps.length → BindsTo s fd ⟨us, []⟩ (ps.zip (us ++ ds))
theorem Binds.all {K : PySem.W.Frag} {fd : FuncData} {ps : List Str} (h : ∀ us : List Value, us.length = ps.length → bindArgs fd ⟨us, []⟩ = pure (ps.zip us)) : Binds K fd ps [] := fun s us _ hl => by
  rw [List.append_nil] at hl ⊢
  exact .of_eq (h us hl)
def Passes (CX : CXT) (X : Cx) (E : XK) : Prop := ∀ (pins : List (Addr × Obj)) (σ : St) (H : Hp) (s : Shared) (e : Value) (s' : Shared), Inv X pins σ H s → CX X.stack H s E e s' → X.xe e s'
section
variable {X : Cx} {CX : CXT} {k : Nat} {f C : Addr} {fd : FuncData} {ps : List Str} {sp : Sp} {dvs : List V} {ds : List Value} {E : XK} {x m : Str} {p pos apos : Pos} {e o : Expr} {es : List Expr} {ta : TE} {t : TA}
theorem run_fn {pins : List (Addr × Obj)} {σ : St} {H : Hp} {s : Shared} {Q : VK} {us : List Value} {vs : List V} (F : FnOk X.prog X.w X.K X.mg X.base CX k f fd ps sp) (hr : Room k X.A) (hb : Binds X.K fd ps ds) (hd : Vals dvs ds) (hx : Passes CX X E)
    (I : Inv X pins σ H s) (r : Vals vs us) (h : sp (vs ++ dvs) H Q E) : wpAny (model X.prog X.w) X.A (call (.ref f) us) (EP X pins σ Q) X.xe s := by
  have r2 : Vals (vs ++ dvs) (us ++ ds) := r.append hd
  have hl : (us ++ ds).length = ps.length := by rw [← r2.length]; exact F.len _ _ _ _ h
  refine wpAny_call (codeAny_mono (F.run X.A X.stack s H ⟨us, []⟩ (us ++ ds) (vs ++ dvs) Q E hr I.env0 (hb s us I.kIn hl) r2 h) fun r s' hq => ?_)
  cases r with
  | error e => exact hx pins σ H s e s' I hq
  | ok fl =>
    cases fl with
    | ret u => exact I.after hq
    | next => exact False.elim hq
    | brk => exact False.elim hq
    | cont => exact False.elim hq
theorem pe_call (F : FnOk X.prog X.w X.K X.mg X.base CX k f fd ps sp) (hr : Room k X.A) (hg : Gl X x) (hm : X.mg x = some (.ref f)) (hk : PySem.W.keepIn X.K (.ref f) = true) (hb : Binds X.K fd ps ds) (hd : Vals dvs ds) (hx : Passes CX X E)
    (ha : PA X (e :: es) t) (hdb : (x == ("__debug__" : Str)) = false := by decide) (he : starEach (e :: es) X.env = (false, eval e X.env) :: starEach es X.env := by rfl) (hpl : (backTo pos (starEach es X.env)).any (·.1) = false := by rfl) :
    PE X (.Call (.Name x p) (e :: es) [] pos) (tCall sp dvs E t) := by
  intro pins s σ H Q I h
  refine wpAny_Call_Name_kw (ld_glob I hg hm ?_ hdb)
  refine PySem.W.callWith_K (h₀ := X.base) I.ok.mod.kin hk (thn (ha pos pins s σ H _ I h) fun us s1 ⟨vs, H1, I1, r, q⟩ => ⟨I1.kIn, ?_⟩) he hpl
  exact run_fn F hr hb hd hx I1 r q
end
section
variable {X : Cx} {CX : CXT} {k : Nat} {f C : Addr} {fd : FuncData} {ps ks : List Str} {sp : Sp} {E : XK} {x m : Str} {p pos apos kpos : Pos} {e o : Expr} {es : List Expr} {kws : List Keyword} {te ta : TE} {t tk : TA} {nm : Option Str}
variable {g : List Value → List Value → List Value} {gV : List V → List V → List V}
end
structure FnScope (N P : List Str) (sc : Scope) : Prop where
  kind : sc.kind = .function
  co : sc.isCoroutine = false
  gen : sc.isGenerator = false
  nd : N.Nodup
  pre : N.take P.length = P
  par : ∀ x ∈ P, sc.names.lookup x = some .local ∨ sc.names.lookup x = some .cell
  nofree : ∀ y ∈ sc.names, y.2 ≠ .free
theorem bindL_out {kindOf : Str → Option NameKind} {x : Str} : ∀ {binds : List (Str × Value)} {m : Str → Option Value}, (∀ v, (x, v) ∉ binds) → bindL kindOf binds m x = m x
  | [], _, _ => rfl
  | (n, v) :: r, m, h => by
    unfold bindL
    rw [bindL_out fun w hw => h w (List.mem_cons_of_mem _ hw)]
    split
    · have : x ≠ n := by rintro rfl; exact h v List.mem_cons_self
      simp [this]
    · rfl
theorem bindC_out {kindOf : Str → Option NameKind} {x : Str} : ∀ {binds : List (Str × Value)} {m : Str → Option Value}, (∀ v, (x, v) ∉ binds) → bindC kindOf binds m x = m x
  | [], _, _ => rfl
  | (n, v) :: r, m, h => by
    unfold bindC
    rw [bindC_out fun w hw => h w (List.mem_cons_of_mem _ hw)]
    split
    · rfl
    · have : x ≠ n := by rintro rfl; exact h v List.mem_cons_self
      simp [this]
theorem bindL_get {kindOf : Str → Option NameKind} {x : Str} {v : Value} : ∀ {P : List Str} {vs : List Value} {i : Nat} {m : Str → Option Value}, P.Nodup → P[i]? = some x → vs[i]? = some v → kindOf x = some .local →
    bindL kindOf (P.zip vs) m x = some v
  | [], _, _, _, _, h, _, _ => by simp at h
  | _ :: _, [], _, _, _, _, h, _ => by simp at h
  | p :: P, w :: vs, 0, m, nd, h1, h2, hk => by
    simp at h1 h2; subst h1; subst h2
    show bindL kindOf ((p, w) :: P.zip vs) m p = _
    unfold bindL
    rw [bindL_out fun v hv => (List.nodup_cons.mp nd).1 (List.of_mem_zip hv).1, if_pos hk]
    simp
  | p :: P, w :: vs, i + 1, m, nd, h1, h2, hk => by
    show bindL kindOf ((p, w) :: P.zip vs) m x = _
    unfold bindL
    exact bindL_get (i := i) (List.nodup_cons.mp nd).2 (by simpa using h1) (by simpa using h2) hk
theorem bindC_get {kindOf : Str → Option NameKind} {x : Str} {v : Value} : ∀ {P : List Str} {vs : List Value} {i : Nat} {m : Str → Option Value}, P.Nodup → P[i]? = some x → vs[i]? = some v → kindOf x ≠ some .local →
    bindC kindOf (P.zip vs) m x = some v
  | [], _, _, _, _, h, _, _ => by simp at h
  | _ :: _, [], _, _, _, _, h, _ => by simp at h
  | p :: P, w :: vs, 0, m, nd, h1, h2, hk => by
    simp at h1 h2; subst h1; subst h2
    show bindC kindOf ((p, w) :: P.zip vs) m p = _
    unfold bindC
    rw [bindC_out fun v hv => (List.nodup_cons.mp nd).1 (List.of_mem_zip hv).1, if_neg hk]
    simp
  | p :: P, w :: vs, i + 1, m, nd, h1, h2, hk => by
    show bindC kindOf ((p, w) :: P.zip vs) m x = _
    unfold bindC
    exact bindC_get (i := i) (List.nodup_cons.mp nd).2 (by simpa using h1) (by simpa using h2) hk
def start (N : List Str) (vs : List V) : St := vs.map some ++ List.replicate (N.length - vs.length) none
def cxOf (CX : CXT) (P : Program) (w : World) (K : PySem.W.Frag) (mg : Str → Option Value) (base : Heap) (N : List Str) (qual : Str) (scope : Scope) (f : Addr) (cd : Value) (A : Around) (outer : List Env) (s : Shared) (H : Hp) (E : XK) : Cx where
  prog := P
  w := w
  K := K
  mg := mg
  base := base
  A := A.deeper (envOfC qual scope s.heap.objs.size f cd)
  N := N
  s₀ := s
  H₀ := H
  env := envOfC qual scope s.heap.objs.size f cd
  outer := outer
  stack := envOfC qual scope s.heap.objs.size f cd :: outer
  ex := []
  calm := true
  fn := fun _ => true
  pn := []
  xe := fun e s' => wpAny (model P w) (A.deeper (envOfC qual scope s.heap.objs.size f cd)) (leaving (envOfC qual scope s.heap.objs.size f cd) e) (fun _ s'' => CX outer H s E e s'') (fun e' s'' => CX outer H s E e' s'') s'
theorem cell_has {sc : Scope} {n : Nat} {x : Str} (h : sc.names.lookup x = some .cell) : ∃ c, (cellsFrom n sc.names []).lookup x = some c := by
  have q := PySem.W.cellsFrom_some sc.names n [] (.inl h)
  exact Option.isSome_iff_exists.mp q
theorem inv_start {CX : CXT} {P : Program} {w : World} {K : PySem.W.Frag} {mg : Str → Option Value} {base : Heap} {N ps : List Str} {qual : Str} {scope : Scope} {f : Addr} {cd : Value} {A : Around} {outer : List Env} {s s1 : Shared} {H : Hp} {E : XK} {us : List Value} {vs : List V}
    (S : FnScope N ps scope) (hd : A.handled = none) (e0 : Env0 P w K mg base A outer s H) (hl : vs.length = ps.length) (r : Vals vs us)
    (x : InCallC s s.heap.objs.size (bindL (envOfC qual scope s.heap.objs.size f cd).kindOf (ps.zip us) fun _ => none) (cellsFrom (s.heap.objs.size + 1) scope.names []) (bindC (envOfC qual scope s.heap.objs.size f cd).kindOf (ps.zip us) fun _ => none) s1) :
    Inv (cxOf CX P w K mg base N qual scope f cd A outer s H E) [] (start N vs) H s1 := by
  have hpl : ps.length ≤ N.length := by have := congrArg List.length S.pre; rw [List.length_take] at this; omega
  obtain ⟨h1, tk, rfl, hk⟩ := x.done
  have noA : ∀ b : Addr, b ∉ (cxOf CX P w K mg base N qual scope f cd A outer s H E).ex := fun b z => absurd (show b ∈ ([] : List Addr) from z) (by simp)
  refine ⟨⟨e0.mod, S.kind, rfl, rfl, Nat.le_refl _, fun y z c h1 h2 => ?_, fun y hy => ?_, fun y c _ h => ?_, fun _ => hd, Around.frames_deeper e0.frames, .inr ⟨rfl, rfl⟩, fun b z => absurd z (noA b), e0.bs, e0.bsz, fun b _ _ => noA b, fun b z => absurd z (noA b), e0.funs, e0.frf⟩,
    rfl, e0.bare, Un.kept hk, ⟨_, x.toInCall.ns, fun i y v h1 h2 h3 => ?_⟩, fun y c h => ⟨_, x.cell y c h⟩, e0.hok.fresh (Nat.le_refl _), fun y c h => ?_, fun p hp => absurd (show p ∈ ([] : List (Addr × Obj)) from hp) (by simp), e0.hok.kept hk, ?_⟩
  · exact name_of_addr x.apart (PySem.mem_of_lookup h1) (PySem.mem_of_lookup h2)
  · have hy : scope.names.lookup y = some .cell ∨ scope.names.lookup y = some .free := hy
    rcases hy with hy | hy
    · exact cell_has hy
    · exact absurd rfl (S.nofree _ (PySem.mem_of_lookup hy))
  · exact Nat.le_of_lt (x.above y c (PySem.mem_of_lookup h))
  · have hi : i < vs.length := by
      unfold start at h2
      by_cases hi : i < vs.length
      · exact hi
      · rw [List.getElem?_append_right (by simpa using hi)] at h2
        rw [List.getElem?_replicate] at h2
        split at h2 <;> cases h2
    have ha : vs[i]? = some v := by
      unfold start at h2
      rw [List.getElem?_append_left (by simpa using hi), List.getElem?_map] at h2
      cases e : vs[i]? with
      | none => rw [e] at h2; cases h2
      | some a => rw [e] at h2; cases h2; rfl
    obtain ⟨u, hu, rv⟩ := r.get ha
    have hp : ps[i]? = some y := by
      rw [← S.pre, List.getElem?_take_of_lt (by omega)]; exact h1
    have ndP : ps.Nodup := by rw [← S.pre]; exact S.nd.sublist (List.take_sublist _ _)
    refine ⟨u, rv, ?_⟩
    rcases S.par y (List.mem_of_getElem? hp) with k | k
    · exact .inl ⟨k, bindL_get ndP hp hu k⟩
    · obtain ⟨c, e⟩ := cell_has (n := s.heap.objs.size + 1) k
      refine .inr ⟨.inl k, c, e, ?_⟩
      have q := x.cell y c e
      rw [bindC_get ndP hp hu (by show scope.names.lookup y ≠ _; rw [k]; decide)] at q
      exact q
  · exact e0.hok.fresh (Nat.le_of_lt (x.above y c (PySem.mem_of_lookup h)))
  · unfold start
    show _ = N.length
    rw [List.length_append, List.length_map, List.length_replicate]
    omega
theorem fn_of {CX : CXT} {P : Program} {w : World} {K : PySem.W.Frag} {mg : Str → Option Value} {base : Heap} {k : Nat} {f : Addr} {name qual : Str} {params : Arguments} {body : List Stmt} {scope : Scope} {dV kV doc pm cdv ct oc : Value} {an od : Option Addr}
    {osl : Array (Option Value)} {N ps : List Str} {sp : Sp} (lk : K.lookup f = some ⟨oc, od, .func (PySem.W.fnOf name qual params body scope dV kV doc pm an cdv ct), osl⟩) (hcd : PySem.W.codeIn K cdv qual = true) (S : FnScope N ps scope)
    (len : ∀ vs H Q E, sp vs H Q E → vs.length = ps.length)
    (hbody : ∀ (A : Around) (outer : List Env) (s : Shared) (H : Hp) (vs : List V) (Q : VK) (E : XK), Room k (A.deeper (envOfC qual scope s.heap.objs.size f cdv)) → sp vs H Q E →
      ∃ t, PSs (cxOf CX P w K mg base N qual scope f cdv A outer s H E) body t ∧ t { nx := fun _ H' => Q .non H', rt := Q } (start N vs) H) :
    FnOk P w K mg base CX (k + 1) f (PySem.W.fnOf name qual params body scope dV kV doc pm an cdv ct) ps sp := by
  refine ⟨len, fun A outer s H args us vs Q E hr e0 hb r hsp => ?_⟩
  have hl := len _ _ _ _ hsp
  have KX : K.In s.heap := e0.mod.kin.keeps fun b o e => (e0.bs b o e).1
  have lim : s.heap.NoLimit := e0.mod.nolimit.keeps fun b o e => (e0.bs b o e).1
  have hkind : ∀ y ∈ ps.zip us, scope.names.lookup y.1 = some .local ∨ (scope.names.lookup y.1 = some .cell ∧ ((cellsFrom (s.heap.objs.size + 1) scope.names []).lookup y.1).isSome = true) := fun ⟨n, v⟩ hy => by
    rcases S.par n (List.of_mem_zip hy).1 with q | q
    · exact .inl q
    · exact .inr ⟨q, PySem.W.cellsFrom_some _ _ _ (.inl q)⟩
  refine codeAny_call_function hr.depth (KX _ _ lk) rfl S.co S.gen rfl (PySem.W.codeRec_of KX hcd) (hb _ _ _ _ ?_)
  refine wpAny_newFunctionEnv_cells S.kind hkind fun env he s1 x => ?_
  subst he
  refine ⟨lim.keeps x.toInCall.keep, codeAny_func ?_⟩
  obtain ⟨t, ht, hq⟩ := hbody A outer s H vs Q E (hr.deeper _) hsp
  have I : Inv (cxOf CX P w K mg base N qual scope f cdv A outer s H E) [] (start N vs) H s1 := inv_start S hr.hd e0 hl r x
  refine wpAny_mono (ht [] s1 (start N vs) H _ I hq) (fun fl s' hs => ?_) fun e s' hs => hs
  have fin : ∀ {σ' : St} {H' : Hp} {v : V} {u : Value}, Inv (cxOf CX P w K mg base N qual scope f cdv A outer s H E) [] σ' H' s' → RelV v u → Q v H' → CE outer P w H s Q u s' :=
    fun {σ' H' v u} J rv q => ⟨v, H', J.os, J.bare, J.base, J.hok, rv, q⟩
  cases fl with
  | ret u =>
    obtain ⟨v, σ', H', J, rv, q⟩ := hs
    exact fin J rv q
  | next =>
    obtain ⟨σ', H', J, q⟩ := hs
    exact fin (v := V.non) (u := Value.none) J rfl q
  | brk =>
    obtain ⟨_, _, _, q⟩ := hs
    exact False.elim q
  | cont =>
    obtain ⟨_, _, _, q⟩ := hs
    exact False.elim q
end L2
namespace L2
open PySem PySem.Spec PyProof.Rows
section
variable {X : Cx} {x : Str} {p pos : Pos} {e : Expr} {es : List Expr} {t : TA} {id T : String} {r : List V → Hp → VK → Prop}
def tCB (r : List V → Hp → VK → Prop) (t : TA) : TE := fun σ H Q => t σ H fun vs H1 => r vs H1 Q
theorem pe_callB (hc : CallR X (.builtin id) r) (hg : Gl X x) (hm : X.mg x = none) (hv : bootBuiltins x = some (.builtin id)) (ha : PA X (e :: es) t) (hn : x ≠ "__name__" := by decide) (hdb : (x == ("__debug__" : Str)) = false := by decide)
    (he : starEach (e :: es) X.env = (false, eval e X.env) :: starEach es X.env := by rfl) (hpl : (backTo pos (starEach es X.env)).any (·.1) = false := by rfl) : PE X (.Call (.Name x p) (e :: es) [] pos) (tCB r t) := by
  intro pins s σ H Q I h
  refine wpAny_Call_Name_kw (ld_blt I hg hm hv ?_ hn hdb)
  exact PyProof.Rows.callWith_builtin1 (thn (ha pos pins s σ H _ I h) fun us s1 ⟨vs, H1, I1, r1, q1⟩ => hc pins s1 σ H1 vs us Q I1 r1 q1) he hpl
theorem pe_callTy (hc : CallR X (.type T) r) (hg : Gl X x) (hm : X.mg x = none) (hv : bootBuiltins x = some (.type T)) (ha : PA X (e :: es) t) (hn : x ≠ "__name__" := by decide) (hdb : (x == ("__debug__" : Str)) = false := by decide)
    (he : starEach (e :: es) X.env = (false, eval e X.env) :: starEach es X.env := by rfl) (hpl : (backTo pos (starEach es X.env)).any (·.1) = false := by rfl) : PE X (.Call (.Name x p) (e :: es) [] pos) (tCB r t) := by
  intro pins s σ H Q I h
  refine wpAny_Call_Name_kw (ld_blt I hg hm hv ?_ hn hdb)
  exact PyProof.Rows.callWith_type1 (thn (ha pos pins s σ H _ I h) fun us s1 ⟨vs, H1, I1, r1, q1⟩ => hc pins s1 σ H1 vs us Q I1 r1 q1) he hpl
end
end L2
namespace HT
open PySem PyProof.Rows
section
open PySem.SeqAt
open PySem.AutoSeq1 (wpAny_loadPart')
open PySem.MeetsSeq PySem.MeetsSeq2 PySem.MeetsSeq3
end
section
variable {prog : Program} {w : World} {A : Around} {E : Value → Shared → Prop} {s : Shared}
theorem cat_tup {t b : Addr} {vs ws : List Value} {Q : Value → Shared → Prop} (ht : IsTup s.heap t vs.toArray) (hb : IsTup s.heap b ws.toArray) (hv : vs ≠ [])
    (h1 : ws = [] → Q (.ref t) s) (h2 : ws ≠ [] → Q (.ref s.heap.objs.size) { s with heap := s.heap.push { cls := .type "tuple", data := .seq (vs ++ ws).toArray } })
    (hsz : vs.length + ws.length ≤ sizeLine) : wpAny (model prog w) A (binaryOp .Add (.ref t) (.ref b)) Q E s := by
  obtain ⟨⟨cls, dd, data, sl⟩, ho, hc, n, hd⟩ := id ht
  obtain ⟨⟨cls2, dd2, data2, sl2⟩, ho2, hc2, n2, hd2⟩ := id hb
  simp only at hc hd hc2 hd2
  subst hc hd hc2 hd2
  have e : vs.toArray ++ ws.toArray = (vs ++ ws).toArray := by simp
  by_cases hw : ws = []
  · exact concat_meets ⟨_, ho, rfl⟩ ⟨_, ho2, rfl⟩ noFill_tuple_add seq_tuple_add PySem.F.slot_tuple_add PySem.F.entry_tuple_add (PySem.F.args_tuple_add_2 _ _)
      (tuple_addW1 t b vs.toArray ws.toArray n n2 dd dd2 sl sl2 (by simpa using hv) (by simp [hw])) ⟨ho, ho2, h1 hw⟩
  · refine concat_meets ⟨_, ho, rfl⟩ ⟨_, ho2, rfl⟩ noFill_tuple_add seq_tuple_add PySem.F.slot_tuple_add PySem.F.entry_tuple_add (PySem.F.args_tuple_add_2 _ _)
      (tuple_addW2 t b vs.toArray ws.toArray n n2 dd dd2 sl sl2 (by simpa using hv) (by simpa using hw) (by rw [List.size_toArray, List.size_toArray]; exact hsz)) ⟨ho, ho2, ?_⟩
    rw [e]
    exact h2 hw
def sIx (n d : Nat) : Option Int → Nat
  | none => d
  | some v => if v < 0 then (v + (n : Int)).toNat else min v.toNat n
theorem sIx_none (n d : Nat) : sIx n d none = d := rfl
theorem sIx_nat (n d k : Nat) : sIx n d (some (k : Int)) = min k n := by
  show (if (k : Int) < 0 then ((k : Int) + (n : Int)).toNat else min (k : Int).toNat n) = min k n
  rw [if_neg (by omega), Int.toNat_natCast]
theorem sIx_le (n d : Nat) (hd : d ≤ n) (o : Option Int) : sIx n d o ≤ n := by
  cases o with
  | none => exact hd
  | some v =>
    show (if v < 0 then (v + (n : Int)).toNat else min v.toNat n) ≤ n
    by_cases hv : v < 0
    · rw [if_pos hv]; omega
    · rw [if_neg hv]; exact Nat.min_le_right _ _
theorem clip_eq (v : Int) (n d : Nat) : (if v < 0 then max (v + (n : Int)) 0 else min v (n : Int)) = ((sIx n d (some v) : Nat) : Int) := by
  show (if v < 0 then max (v + (n : Int)) 0 else min v (n : Int)) = (((if v < 0 then (v + (n : Int)).toNat else min v.toNat n) : Nat) : Int)
  by_cases hv : v < 0
  · simp only [if_pos hv]; omega
  · simp only [if_neg hv]; omega
theorem adjust_gen (lo hi : Option Int) (n : Nat) : Builtin.Slice.sliceAdjust lo hi 1 (n : Int) = (((sIx n 0 lo : Nat) : Int), ((sIx n n hi : Nat) : Int)) := by
  have h1 : ¬ ((1 : Int) < 0) := by omega
  unfold Builtin.Slice.sliceAdjust
  simp only [h1, if_false]
  refine Prod.ext ?_ ?_
  · cases lo with
    | none => rfl
    | some v => exact clip_eq v n 0
  · cases hi with
    | none => rfl
    | some v => exact clip_eq v n n
theorem places_gen (i j : Nat) : Builtin.Slice.slicePlaces (i : Int) (j : Int) 1 = j - i := by
  unfold Builtin.Slice.slicePlaces
  have h1 : (1 : Int) > 0 := by omega
  simp only [h1, if_true, Int.ediv_one]
  split <;> omega
theorem slicePart_ {v : Value} {o : Option Int} {Q : Option Int → Shared → Prop} (p : IsPart v o) (h : Q o s) : wpAny (model prog w) A (Builtin.Slice.slicePartIndex v) Q E s := by
  cases p with
  | none => exact slicePart_none h
  | int i t => exact slicePart_int h
theorem sliceApplied_gen {sl : Addr} {vl vu : Value} {lo hi : Option Int} {n : Nat} {Q : Int × Int × Nat → Shared → Prop} (hs : s.heap.IsSliceOf sl vl vu .none) (pl : IsPart vl lo) (pu : IsPart vu hi)
    (h : Q (((sIx n 0 lo : Nat) : Int), 1, sIx n n hi - sIx n 0 lo) s) : wpAny (model prog w) A (Builtin.Slice.sliceApplied (.ref sl) (pure (n : Int))) Q E s := by
  obtain ⟨os, hos, hcs, hds⟩ := id hs
  unfold Builtin.Slice.sliceApplied Builtin.Slice.sliceFields
  refine wpAny_bind (wpAny_bind (wpAny_field hos hds (x := vl) rfl (wpAny_bind (wpAny_field hos hds (x := vu) rfl (wpAny_bind (wpAny_field hos hds (x := .none) rfl (wpAny_pure ?_)))))))
  refine wpAny_bind (slicePart_none ?_)
  show wpAny _ _ (if ((1 : Int) == 0) = true then _ else _) _ _ s
  rw [if_neg (by decide)]
  refine wpAny_bind (slicePart_ pl (wpAny_bind (slicePart_ pu (wpAny_bind (wpAny_pure ?_)))))
  show wpAny _ _ (match Builtin.Slice.sliceAdjust lo hi 1 (n : Int) with | (lo, hi) => pure (lo, (1 : Int), Builtin.Slice.slicePlaces lo hi 1)) _ _ s
  rw [adjust_gen lo hi n]
  show wpAny _ _ (pure (((sIx n 0 lo : Nat) : Int), (1 : Int), Builtin.Slice.slicePlaces ((sIx n 0 lo : Nat) : Int) ((sIx n n hi : Nat) : Int) 1)) _ _ s
  rw [places_gen]
  exact wpAny_pure h
theorem pick_gen (xs : Array Value) (i k : Nat) : ((List.range k).filterMap fun (m : Nat) => xs[((i : Int) + (m : Int) * 1).toNat]?).toArray = ((xs.toList.drop i).take k).toArray := by
  have e : (fun (m : Nat) => xs[((i : Int) + (m : Int) * 1).toNat]?) = fun m => xs[i + m]? := by
    funext m
    have : ((i : Int) + (m : Int) * 1).toNat = i + m := by omega
    rw [this]
  rw [e]
  have := pick_run xs i k
  rw [List.filterMap_map] at this
  have e2 : ((fun x => xs[x]?) ∘ fun x => i + x) = fun m => xs[i + m]? := rfl
  rw [e2] at this
  rw [this]
theorem getItem_tuple_cut {t sl : Addr} {items : Array Value} {vl vu : Value} {lo hi : Option Int} {Q : Value → Shared → Prop} (ht : IsTup s.heap t items) (hs : s.heap.IsSliceOf sl vl vu .none) (pl : IsPart vl lo) (pu : IsPart vu hi)
    (hw : ¬ (sIx items.size 0 lo = 0 ∧ sIx items.size items.size hi = items.size))
    (h : Q (.ref s.heap.objs.size) { s with heap := s.heap.push { cls := .type "tuple", data := .seq ((items.toList.drop (sIx items.size 0 lo)).take (sIx items.size items.size hi - sIx items.size 0 lo)).toArray } })
    (hsz : items.size ≤ sizeLine) : wpAny (model prog w) A (getItem (.ref t) (.ref sl)) Q E s := by
  have htake : sizeOk (.seq ((items.toList.drop (sIx items.size 0 lo)).take (sIx items.size items.size hi - sIx items.size 0 lo)).toArray) := by
    show ((items.toList.drop (sIx items.size 0 lo)).take (sIx items.size items.size hi - sIx items.size 0 lo)).toArray.size ≤ sizeLine
    rw [List.size_toArray, List.length_take, List.length_drop, Array.length_toList]
    omega
  have hj : sIx items.size items.size hi ≤ items.size := sIx_le _ _ (Nat.le_refl _) hi
  obtain ⟨os, hos, hcs, hds⟩ := id hs
  have hTs : s.TypeIs (.ref sl) "slice" := ⟨os, hos, hcs⟩
  unfold getItem
  try with_reducible refine wpAny_holding ?_
  first | refine wpAny_bind (wpAny_pure ?_) | skip
  refine wpAny_bind (wpAny_sequenceKey ht.typeIs (by decide) ?_)
  refine wpAny_bind (wpAny_callSpecial?_slot (name := Str.ofString "__getitem__") ht.typeIs PyProof.Rows.slot_tuple_getitem
    (wpAny_call_entry PyProof.Rows.slot_tuple_getitem ht.typeIs entry_tuple_getitem ?_ (args_tuple_getitem _ _)))
  show wpAny _ _ (Builtin.Tuple.tupleItemsOf (.ref t) >>= _) _ _ s
  refine wpAny_bind (tupleItemsOf_ ht ?_)
  refine wpAny_bind (wpAny_typeOf hTs ?_)
  rw [if_pos (by decide)]
  refine wpAny_bind (sliceApplied_gen hs pl pu ?_)
  have hno : ¬ ((((sIx items.size 0 lo : Nat) : Int) == 0 && (1 : Int) == 1 && (sIx items.size items.size hi - sIx items.size 0 lo) == items.size) = true) := by
    intro q
    rw [Bool.and_eq_true, Bool.and_eq_true] at q
    have q1 : ((sIx items.size 0 lo : Nat) : Int) = 0 := eq_of_beq q.1.1
    have q2 : sIx items.size items.size hi - sIx items.size 0 lo = items.size := eq_of_beq q.2
    exact hw ⟨by omega, by omega⟩
  show wpAny _ _ (if (((sIx items.size 0 lo : Nat) : Int) == 0 && (1 : Int) == 1 && (sIx items.size items.size hi - sIx items.size 0 lo) == items.size) = true then _ else _) _ _ s
  rw [if_neg hno, pick_gen]
  first
    | exact wpAny_bind (m := Builtin.Tuple.tupleExact _) (wpAny_newObj_type (wpAny_pure ⟨_, rfl, wpAny_pure h⟩) htake)
    | exact wpAny_bind (m := Builtin.Tuple.tupleExact _) (wpAny_newObj_type (wpAny_bind (wpAny_pure (wpAny_pure ⟨_, rfl, wpAny_pure h⟩))) htake)
    | exact wpAny_bind (wpAny_bind (m := Builtin.Tuple.tupleExact _) (wpAny_newObj_type (wpAny_pure (wpAny_pure ⟨_, rfl, wpAny_pure h⟩)) htake))
    | exact wpAny_bind (wpAny_bind (m := Builtin.Tuple.tupleExact _) (wpAny_newObj_type (wpAny_pure ⟨_, rfl, wpAny_pure h⟩) htake))
end
end HT
namespace L2
open PySem PySem.Spec PyProof.Rows
abbrev TO := St → Hp → (Option Int → Hp → Prop) → Prop
def PO (X : Cx) (e : Option Expr) (t : TO) : Prop :=
  ∀ (pins : List (Addr × Obj)) (s : Shared) (σ : St) (H : Hp) (Q : Option Int → Hp → Prop), Inv X pins σ H s → t σ H Q →
    wpAny (model X.prog X.w) X.A (evalPart e X.env) (fun u s' => ∃ o H', Inv X pins σ H' s' ∧ IsPart u o ∧ Q o H') X.xe s
def tNoPart : TO := fun _ H Q => Q none H
def tPart (t : TE) : TO := fun σ H Q => t σ H fun x H1 => ∃ i, x = .int i ∧ Q (some i) H1
section
variable {X : Cx} {e : Expr} {te : TE} {lo hi : Option Expr} {tl th : TO} {pos p2 : Pos}
theorem po_none : PO X none tNoPart := by
  intro pins s σ H Q I h
  rw [evalPart_none]
  exact wpAny_pure ⟨none, H, I, .none, h⟩
theorem po_some (h : PE X e te) : PO X (some e) (tPart te) := by
  intro pins s σ H Q I hw
  rw [evalPart_some]
  refine thn (h pins s σ H _ I hw) fun u s1 ⟨x, H1, I1, r1, q1⟩ => ?_
  obtain ⟨i, rfl, q⟩ := q1
  obtain ⟨t, rfl⟩ := r1
  exact ⟨some i, H1, I1, .int i t, q⟩
def SlR (X : Cx) (r : V → Option Int → Option Int → Hp → VK → Prop) : Prop :=
  ∀ (pins : List (Addr × Obj)) (s : Shared) (σ : St) (H : Hp) (x : V) (v vl vu : Value) (lo hi : Option Int) (sl : Addr) (Q : VK), Inv X pins σ H s → RelV x v → s.heap.IsSliceOf sl vl vu .none → IsPart vl lo → IsPart vu hi → r x lo hi H Q →
    ∃ T id, typeLookup (.type T) "__getitem__" = pure (some (.builtin id)) ∧ s.TypeIs v T ∧ wpAny (model X.prog X.w) X.A (getItem v (.ref sl)) (EP X pins σ Q) X.xe s
theorem SlR.or {r r' : V → Option Int → Option Int → Hp → VK → Prop} (h : SlR X r) (h' : SlR X r') : SlR X (fun x lo hi H Q => r x lo hi H Q ∨ r' x lo hi H Q) := by
  intro pins s σ H x v vl vu lo hi sl Q I rx hs pl pu q
  rcases q with q | q
  · exact h pins s σ H x v vl vu lo hi sl Q I rx hs pl pu q
  · exact h' pins s σ H x v vl vu lo hi sl Q I rx hs pl pu q
def tSl (r : V → Option Int → Option Int → Hp → VK → Prop) (te : TE) (tl th : TO) : TE := fun σ H Q => te σ H fun x H1 => tl σ H1 fun l H2 => th σ H2 fun u H3 => r x l u H3 Q
theorem pe_slice {r : V → Option Int → Option Int → Hp → VK → Prop} (hr : SlR X r) (he : PE X e te) (hl : PO X lo tl) (hu : PO X hi th) : PE X (.Subscript e (.Slice lo hi none p2) pos) (tSl r te tl th) := by
  intro pins s σ H Q I h
  refine Subscript_ (thn (he pins s σ H _ I h) fun v s1 ⟨x, H1, I1, r1, q1⟩ => ?_)
  refine wpAny_Slice (thn (hl pins s1 σ H1 _ I1 q1) fun vl s2 ⟨l, H2, I2, pl, q2⟩ => thn (hu pins s2 σ H2 _ I2 q2) fun vu s3 ⟨u, H3, I3, pu, q3⟩ => ?_)
  rw [evalPart_none]
  refine wpAny_pure ?_
  have I4 : Inv X pins σ H3 { s3 with heap := s3.heap.push { cls := .type "slice", data := .fields #[vl, vu, .none] } } := I3.kept (t' := s3.toks) fun b ob q => Heap.get?_push_of_some _ q
  obtain ⟨T, id, hT, ht, hg⟩ := hr pins { s3 with heap := s3.heap.push { cls := .type "slice", data := .fields #[vl, vu, .none] } } σ H3 x v vl vu l u s3.heap.objs.size Q I4 r1 (Heap.IsSliceOf.new ..) pl pu q3
  show wpAny (model X.prog X.w) X.A (subscriptTail e (.Slice lo hi none p2) v (.ref s3.heap.objs.size)) (EP X pins σ Q) X.xe { s3 with heap := s3.heap.push { cls := .type "slice", data := .fields #[vl, vu, .none] } }
  exact tail_any (ops := [.ref s3.heap.objs.size, v]) ht hT hg (by with_unfolding_all rfl)
def cutV (xs : List V) (lo hi : Option Int) : List V := (xs.drop (HT.sIx xs.length 0 lo)).take (HT.sIx xs.length xs.length hi - HT.sIx xs.length 0 lo)
theorem cutV_length (xs : List V) (lo hi : Option Int) : (cutV xs lo hi).length ≤ xs.length := by
  unfold cutV
  rw [List.length_take, List.length_drop]
  omega
def rSlT (K : PySem.W.Frag) : V → Option Int → Option Int → Hp → VK → Prop := fun x lo hi H Q => ∃ a xs, x = .ref a ∧ SqT K H a xs ∧
  ¬ (HT.sIx xs.length 0 lo = 0 ∧ HT.sIx xs.length xs.length hi = xs.length) ∧ ∀ p, H p = none → Q (.ref p) (upd H p (.tup (cutV xs lo hi)))
theorem sl_tup : SlR X (rSlT X.K) := by
  intro pins s σ H x v vl vu lo hi sl Q I rx hs pl pu h
  obtain ⟨a, xs, rfl, hx, hw, q⟩ := h
  cases rx
  obtain ⟨its, r, ht, hz⟩ := I.tuple hx
  have hlen : its.toArray.size = xs.length := by rw [List.size_toArray]; exact r.length.symm
  refine ⟨"tuple", _, PyProof.Rows.slot_tuple_getitem.lookup, ht.typeIs, ?_⟩
  refine HT.getItem_tuple_cut ht hs pl pu (by rw [hlen]; exact hw) ?_ (by rw [hlen]; exact hz)
  rw [hlen]
  refine ⟨.ref s.heap.objs.size, _, I.laid (t' := s.toks) (o := .tup (cutV xs lo hi)) (fun b ob q => Heap.get?_push_of_some _ q) (Nat.le_refl _) ?_, rfl, q _ (I.hok.fresh (Nat.le_refl _))⟩
  exact ⟨Nat.le_trans (cutV_length xs lo hi) hz, _, (r.drop (HT.sIx xs.length 0 lo)).take (HT.sIx xs.length xs.length hi - HT.sIx xs.length 0 lo), IsTup.new _ _⟩
def rCatT (K : PySem.W.Frag) : R2 := fun x y H Q => ∃ a b xs ys, x = .ref a ∧ y = .ref b ∧ SqT K H a xs ∧ SqT K H b ys ∧ xs ≠ [] ∧ xs.length + ys.length ≤ sizeLine ∧
  (ys = [] → Q (.ref a) H) ∧ (ys ≠ [] → ∀ p, H p = none → Q (.ref p) (upd H p (.tup (xs ++ ys))))
theorem Vals.nil_iff {xs : List V} {us : List Value} (r : Vals xs us) : us = [] ↔ xs = [] := by
  cases r with
  | nil => simp
  | cons _ _ => simp
theorem op_catT : OpR X (binaryOp .Add) (rCatT X.K) := by
  intro pins s σ H x y v u Q I rx ry h
  obtain ⟨a, b, xs, ys, rfl, rfl, ha, hb, hx, hz, q1, q2⟩ := h
  cases rx
  cases ry
  obtain ⟨its, r1, p1, _⟩ := I.tuple ha
  obtain ⟨its2, r2, p2, _⟩ := I.tuple hb
  refine HT.cat_tup p1 p2 (fun z => hx (r1.nil_iff.mp z)) (fun z => ⟨.ref a, H, I, rfl, q1 (r2.nil_iff.mp z)⟩) (fun z => ?_) (by rw [← r1.length, ← r2.length]; exact hz)
  refine ⟨.ref s.heap.objs.size, _, I.laid (t' := s.toks) (o := .tup (xs ++ ys)) (fun b ob q => Heap.get?_push_of_some _ q) (Nat.le_refl _) ?_, rfl, q2 (fun w => z (r2.nil_iff.mpr w)) _ (I.hok.fresh (Nat.le_refl _))⟩
  exact ⟨by rw [List.length_append]; exact hz, _, r1.append r2, IsTup.new _ _⟩
end
end L2
namespace L2
open PySem PySem.Spec PyProof.Rows
def ixN (n : Nat) (i : Int) : Option Nat := if 0 ≤ i then (if i < n then some i.toNat else none) else if -(n : Int) ≤ i then some (i + n).toNat else none
def atI {α : Type} (xs : List α) (i : Int) : Option α := (ixN xs.length i).bind fun j => xs[j]?
theorem ixN_seq {n : Nat} {i : Int} {j : Nat} (h : ixN n i = some j) : seqIndex? i n = some j ∧ j < n ∧ -(n : Int) ≤ i ∧ i < n := by
  unfold ixN at h
  by_cases h0 : 0 ≤ i
  · rw [if_pos h0] at h
    by_cases h1 : i < n
    · rw [if_pos h1] at h
      have e : i.toNat = j := Option.some.inj h
      exact ⟨by rw [seqIndex_of h0 h1, e], by omega, by omega, h1⟩
    · rw [if_neg h1] at h; cases h
  · rw [if_neg h0] at h
    by_cases h1 : -(n : Int) ≤ i
    · rw [if_pos h1] at h
      have e : (i + n).toNat = j := Option.some.inj h
      exact ⟨by rw [seqIndex_neg (by omega) h1, e], by omega, h1, by omega⟩
    · rw [if_neg h1] at h; cases h
theorem atI_get {α : Type} {xs : List α} {i : Int} {v : α} (h : atI xs i = some v) : ∃ j, seqIndex? i xs.length = some j ∧ xs[j]? = some v ∧ j < xs.length ∧ -(xs.length : Int) ≤ i ∧ i < xs.length := by
  unfold atI at h
  cases e : ixN xs.length i with
  | none => rw [e] at h; cases h
  | some j =>
    rw [e] at h
    obtain ⟨h1, h2, h3, h4⟩ := ixN_seq e
    exact ⟨j, h1, h, h2, h3, h4⟩
theorem atI_nat {α : Type} {xs : List α} {j : Nat} {v : α} (h : xs[j]? = some v) : atI xs (j : Int) = some v := by
  have hj : j < xs.length := (List.getElem?_eq_some_iff.mp h).1
  have e : ixN xs.length (j : Int) = some j := by
    unfold ixN
    rw [if_pos (by omega), if_pos (by omega)]; simp
  unfold atI; rw [e]; exact h
def PlainIx (b : Expr) : Prop := ∀ o i, subscripted b false o i = operate [o, i] (getItem o i)
def IxR (X : Cx) (r : R2) : Prop :=
  ∀ (value slice : Expr) (pins : List (Addr × Obj)) (s : Shared) (σ : St) (H : Hp) (x y : V) (v u : Value) (Q : VK), Inv X pins σ H s → RelV x v → RelV y u → r x y H Q →
    subscripted slice false v u = operate [v, u] (getItem v u) → wpAny (model X.prog X.w) X.A (subscriptTail value slice v u) (EP X pins σ Q) X.xe s
def MtR (X : Cx) (id : String) (r : V → List V → Hp → VK → Prop) : Prop :=
  ∀ (pins : List (Addr × Obj)) (s : Shared) (σ : St) (H : Hp) (x : V) (xs : List V) (v : Value) (us : List Value) (Q : VK), Inv X pins σ H s → RelV x v → Vals xs us → r x xs H Q →
    wpAny (model X.prog X.w) X.A (call (.builtin id) (v :: us)) (EP X pins σ Q) X.xe s
section
variable {X : Cx} {a b : Expr} {ta tb : TE} {pos : Pos}
theorem IxR.or {r r' : R2} (h : IxR X r) (h' : IxR X r') : IxR X (fun x y H Q => r x y H Q ∨ r' x y H Q) := by
  intro value slice pins s σ H x y v u Q I rx ry q hs
  rcases q with q | q
  · exact h value slice pins s σ H x y v u Q I rx ry q hs
  · exact h' value slice pins s σ H x y v u Q I rx ry q hs
theorem pe_ix {r : R2} (hr : IxR X r) (ha : PE X a ta) (hb : PE X b tb) (hs : PlainIx b) : PE X (.Subscript a b pos) (tOp r ta tb) := by
  intro pins s σ H Q I h
  exact Subscript_ (binT ha hb I h fun v u s2 x y H2 I2 rx ry q => hr a b pins s2 σ H2 x y v u Q I2 rx ry q (hs _ _))
def rIxL (K : PySem.W.Frag) : R2 := fun x y H Q => ∃ p xs i v, x = .ref p ∧ y = .int i ∧ SqL K H p xs ∧ atI xs i = some v ∧ Q v H
def rIxT (K : PySem.W.Frag) : R2 := fun x y H Q => ∃ p xs i v, x = .ref p ∧ y = .int i ∧ SqT K H p xs ∧ atI xs i = some v ∧ Q v H
def rIxS : R2 := fun x y H Q => ∃ z i c, x = .str z ∧ y = .int i ∧ z.length ≤ sizeLine ∧ atI z.cps.toList i = some c ∧ Q (.str ⟨#[c]⟩) H
theorem ix_list : IxR X (rIxL X.K) := by
  intro value slice pins s σ H x y v u Q I rx ry h hs
  obtain ⟨p, xs, i, z, rfl, rfl, hq, he, q⟩ := h
  cases rx
  obtain ⟨t, rfl⟩ := ry
  obtain ⟨its, r, pl, hz⟩ := I.list hq
  obtain ⟨j, h1, h2, h3, h4, h5⟩ := atI_get he
  obtain ⟨w, ew, rw'⟩ := r.get h2
  have hl := r.length
  have hn := line63
  have fin : EP X pins σ Q w s := ⟨z, H, I, rw', q⟩
  by_cases h0 : 0 ≤ i
  · have hj : i.toNat = j := by
      rw [seqIndex_of h0 h5] at h1
      exact Option.some.inj h1
    exact item_listR pl.isList h0 (by omega) (by rw [hj]; simpa using ew) fin hs
  · have hj : (i + (its.toArray.size : Int)).toNat = j := by
      rw [seqIndex_neg (by omega) h4] at h1
      rw [List.size_toArray, ← hl]
      exact Option.some.inj h1
    exact subscriptTail_builtinR (x := w) pl.isList.typeIs slot_list_getitem.lookup
      (wpAny_getItem_list_neg (Q := fun r s' => r = w ∧ EP X pins σ Q r s') pl.isList (by omega) (by rw [List.size_toArray] <;> omega) (by omega) (by rw [hj]; simpa using ew) ⟨rfl, fin⟩) hs
theorem ix_tup : IxR X (rIxT X.K) := by
  intro value slice pins s σ H x y v u Q I rx ry h hs
  obtain ⟨p, xs, i, z, rfl, rfl, hq, he, q⟩ := h
  cases rx
  obtain ⟨t, rfl⟩ := ry
  obtain ⟨its, r, pl, hz⟩ := I.tuple hq
  obtain ⟨j, h1, h2, h3, h4, h5⟩ := atI_get he
  obtain ⟨w, ew, rw'⟩ := r.get h2
  have hl := r.length
  have hn := line63
  have fin : EP X pins σ Q w s := ⟨z, H, I, rw', q⟩
  exact subscriptTail_builtinR (x := w) pl.typeIs slot_tuple_getitem.lookup
    (getItem_tuple (j := j) (Q := fun r s' => r = w ∧ EP X pins σ Q r s') pl (by omega) (by omega) (by rw [List.size_toArray, ← hl]; exact h1) (by simpa using ew) ⟨rfl, fin⟩) hs
theorem ix_str : IxR X rIxS := by
  intro value slice pins s σ H x y v u Q I rx ry h hs
  obtain ⟨z, i, c, rfl, rfl, hz, he, q⟩ := h
  obtain ⟨t, rfl⟩ := rx
  obtain ⟨t', rfl⟩ := ry
  obtain ⟨j, h1, h2, h3, h4, h5⟩ := atI_get he
  have hl : z.cps.toList.length = z.length := by simp [Str.length]
  rw [hl] at h1 h4 h5
  have hn := line63
  exact tail_any (typeIs_str s z t) slot_str_getitem.lookup (getItem_str (c := c) (by
    have e1 : decide (i < -(2 ^ 63 : Int)) = false := decide_eq_false (by omega)
    have e2 : decide (i ≥ 2 ^ 63) = false := decide_eq_false (by omega)
    rw [e1, e2, Bool.or_false]) (by rw [h1]; simpa using h2) ⟨.str ⟨#[c]⟩, H, I.tok _, ⟨_, rfl⟩, q⟩) hs
def rIx (K : PySem.W.Frag) : R2 := fun x y H Q => rIxL K x y H Q ∨ rIxT K x y H Q ∨ rIxS x y H Q
theorem ix_seq : IxR X (rIx X.K) := ix_list.or (ix_tup.or ix_str)
theorem mapSeq_set (its : List Value) (n j : Nat) (u : Value) : Obj.mapSeq (·.setIfInBounds j u) { cls := .type "list", data := .seq its.toArray n } = { cls := .type "list", data := .seq (its.set j u).toArray n } := by
  simp [Obj.mapSeq]
theorem Inv.lst {pins : List (Addr × Obj)} {σ : St} {H : Hp} {s : Shared} {p : Addr} {xs : List V} (I : Inv X pins σ H s) (h : H p = some (.lst xs)) :
    ∃ (its : List Value) (n : Nat), Vals xs its ∧ s.heap.get? p = some { cls := .type "list", data := .seq its.toArray n } ∧ xs.length ≤ sizeLine := by
  obtain ⟨z, its, n, r, e⟩ := I.hok p _ h
  exact ⟨its, n, r, e, z⟩
theorem Inv.lstUpd {pins : List (Addr × Obj)} {σ : St} {H : Hp} {s : Shared} {p : Addr} {xs ys : List V} {its its' : List Value} {n n' : Nat} {f : Obj → Obj} (I : Inv X pins σ H s) (h : H p = some (.lst xs))
    (ho : s.heap.get? p = some { cls := .type "list", data := .seq its.toArray n }) (hf : f { cls := .type "list", data := .seq its.toArray n } = { cls := .type "list", data := .seq its'.toArray n' }) (r : Vals ys its') (hz : ys.length ≤ sizeLine) (t : Nat) :
    Inv X pins σ (upd H p (.lst ys)) { s with heap := s.heap.update p f, toks := t } := by
  have e : (s.heap.update p f).get? p = some { cls := .type "list", data := .seq its'.toArray n' } := by
    rw [Heap.get?_update_self f ho (by rw [hf] <;> rfl), hf]
  refine I.write (x := p) (e := p) (by rw [h]; trivial) (.inl rfl) (fun b u hb q => (Heap.get?_update_other _ _ (Ne.symm hb)).trans q) ⟨_, e⟩ ?_
  exact ⟨hz, its', n', r, e⟩
def rSetL : V → V → V → Hp → (Hp → Prop) → Prop := fun o i v H Q => ∃ p xs k j, o = .ref p ∧ i = .int k ∧ H p = some (.lst xs) ∧ ixN xs.length k = some j ∧ Q (upd H p (.lst (xs.set j v)))
theorem set_list : PSet X rSetL := by
  intro pins s σ H o i v ov iv u Q I ro ri rv h
  obtain ⟨p, xs, k, j, rfl, rfl, hp, hj, q⟩ := h
  cases ro
  obtain ⟨t, rfl⟩ := ri
  obtain ⟨its, n, r, ho, hz⟩ := I.lst hp
  obtain ⟨h1, h2, h3, h4⟩ := ixN_seq hj
  have hl := r.length
  have hn := line63
  have I' : Inv X pins σ (upd H p (.lst (xs.set j v))) { s with heap := s.heap.update p (Obj.mapSeq (·.setIfInBounds j u)) } :=
    I.lstUpd hp ho (mapSeq_set its n j u) (r.set rv j) (by rw [List.length_set]; exact hz) s.toks
  by_cases h0 : 0 ≤ k
  · have hk : k.toNat = j := by
      rw [seqIndex_of h0 h4] at h1
      exact Option.some.inj h1
    exact PySem.W.ki_setAt ho h0 (by omega) (by rw [List.size_toArray, ← hl]; exact h4) (by rw [hk]; exact ⟨_, I', q⟩)
  · have hk : (k + (its.toArray.size : Int)).toNat = j := by
      rw [seqIndex_neg (by omega) h3] at h1
      rw [List.size_toArray, ← hl]
      exact Option.some.inj h1
    exact PySem.W.ki_setBack ho (by omega) (by rw [List.size_toArray, ← hl]; exact h3) (by omega) (by rw [hk]; exact ⟨_, I', q⟩)
theorem slice_bounds (lo hi : Option Int) (n : Nat) : (sliceBounds lo hi none n).1 = ((HT.sIx n 0 lo : Nat) : Int) ∧ (sliceBounds lo hi none n).2.1 = ((HT.sIx n n hi : Nat) : Int) ∧ (sliceBounds lo hi none n).2.2 = 1 := by
  refine ⟨?_, ?_, rfl⟩
  · cases lo with
    | none => simp [sliceBounds, HT.sIx]
    | some i =>
      simp only [sliceBounds, HT.sIx, Option.getD_none, show (1 : Int) > 0 by decide, if_true]
      by_cases h : i < 0
      · simp only [h, if_true] <;> omega
      · simp only [h, if_false] <;> omega
  · cases hi with
    | none => simp [sliceBounds, HT.sIx]
    | some i =>
      simp only [sliceBounds, HT.sIx, Option.getD_none, show (1 : Int) > 0 by decide, if_true]
      by_cases h : i < 0
      · simp only [h, if_true] <;> omega
      · simp only [h, if_false] <;> omega
theorem slicePick_cut (its : List Value) (lo hi : Option Int) : slicePick its.toArray lo hi none = ((its.drop (HT.sIx its.length 0 lo)).take (HT.sIx its.length its.length hi - HT.sIx its.length 0 lo)).toArray := by
  obtain ⟨h1, h2, h3⟩ := slice_bounds lo hi its.toArray.size
  unfold slicePick
  rw [h1, h2, h3]
  simp only [sliceRange_one, pick_run, List.size_toArray] <;> rfl
def rSlL (K : PySem.W.Frag) : V → Option Int → Option Int → Hp → VK → Prop := fun x lo hi H Q => ∃ a xs, x = .ref a ∧ SqL K H a xs ∧ ∀ p, H p = none → Q (.ref p) (upd H p (.lst (cutV xs lo hi)))
theorem sl_list : SlR X (rSlL X.K) := by
  intro pins s σ H x v vl vu lo hi sl Q I rx hs pl pu h
  obtain ⟨a, xs, rfl, hx, q⟩ := h
  cases rx
  obtain ⟨its, r, ht, hz⟩ := I.list hx
  have hlen := r.length
  refine ⟨"list", _, slot_list_getitem.lookup, ht.isList.typeIs, ?_⟩
  refine wpAny_getItem_list_slice ht.isList hs pl pu .none (by simp) ?_ (by rw [List.size_toArray] <;> omega)
  rw [slicePick_cut, ← hlen]
  refine ⟨.ref s.heap.objs.size, _, I.laid (t' := s.toks) (o := .lst (cutV xs lo hi)) (fun b ob q => Heap.get?_push_of_some _ q) (Nat.le_refl _) ?_, rfl, q _ (I.hok.fresh (Nat.le_refl _))⟩
  exact ⟨Nat.le_trans (cutV_length xs lo hi) hz, _, 0, (r.drop (HT.sIx xs.length 0 lo)).take (HT.sIx xs.length xs.length hi - HT.sIx xs.length 0 lo), Heap.get?_push_size _ rfl⟩
theorem call_len_seq : CallR X (.builtin "len") (fun xs H Q => ∃ p ys, xs = [.ref p] ∧ (SqL X.K H p ys ∨ SqT X.K H p ys) ∧ Q (.int ys.length) H) := by
  intro pins s σ H xs us Q I r h
  obtain ⟨p, ys, rfl, hq, q⟩ := h
  obtain ⟨u, rfl, rx⟩ := vals1 r
  cases rx
  have hn := line63
  rcases hq with hq | hq
  · obtain ⟨its, r', pl, hz⟩ := I.list hq
    have hlen := r'.length
    exact Calls.call_len_list pl.isList (by simp only [List.size_toArray] <;> omega) ⟨.int ys.length, H, I.tok _, ⟨s.toks + 1, by rw [List.size_toArray, hlen]⟩, q⟩
  · obtain ⟨its, r', pl, hz⟩ := I.tuple hq
    have hlen := r'.length
    exact len_tuple pl (by simp only [List.size_toArray] <;> omega) ⟨.int ys.length, H, I.tok _, ⟨s.toks + 1, by rw [List.size_toArray, hlen]⟩, q⟩
theorem call_len_str : CallR X (.builtin "len") (fun xs H Q => ∃ z, xs = [.str z] ∧ z.length ≤ sizeLine ∧ Q (.int z.length) H) := by
  intro pins s σ H xs us Q I r h
  obtain ⟨z, rfl, hz, q⟩ := h
  obtain ⟨u, rfl, t, rfl⟩ := vals1 r
  have hn := line63
  exact len_str (by omega) ⟨.int z.length, H, I.tok _, ⟨_, rfl⟩, q⟩
theorem CallR.or {f : Value} {r r' : List V → Hp → VK → Prop} (h : CallR X f r) (h' : CallR X f r') : CallR X f (fun xs H Q => r xs H Q ∨ r' xs H Q) := by
  intro pins s σ H xs us Q I rs q
  rcases q with q | q
  · exact h pins s σ H xs us Q I rs q
  · exact h' pins s σ H xs us Q I rs q
def tyV (K : PySem.W.Frag) (T : String) (x : V) (H : Hp) : Prop := match x with
  | .str _ => T = "str"
  | .int _ => T = "int"
  | .ref p => (T = "list" ∧ ∃ xs, SqL K H p xs) ∨ (T = "tuple" ∧ ∃ o, K.lookup p = some o ∧ o.cls = .type "tuple" ∧ o.dict = none) ∨
      (T = "dict" ∧ ((∃ kvs, H p = some (.dK kvs)) ∨ ∃ kvs, H p = some (.dT kvs))) ∨ (T = "set" ∧ ∃ S n, H p = some (.set S n))
  | _ => False
theorem tyV_is {pins : List (Addr × Obj)} {σ : St} {H : Hp} {s : Shared} {T : String} {x : V} {v : Value} (I : Inv X pins σ H s) (r : RelV x v) (ty : tyV X.K T x H) :
    s.TypeIs v T ∧ ∀ a, v = .ref a → ∃ ob, s.heap.get? a = some ob ∧ ob.dict = none := by
  cases x with
  | str z =>
    obtain ⟨t, rfl⟩ := r
    cases (show T = "str" from ty)
    exact ⟨typeIs_str s z t, fun _ e => nomatch e⟩
  | int i =>
    obtain ⟨t, rfl⟩ := r
    cases (show T = "int" from ty)
    exact ⟨typeIs_int s i t, fun _ e => nomatch e⟩
  | ref p =>
    cases r
    rcases ty with ⟨rfl, xs, hq⟩ | ⟨rfl, o, hk, hc, hd⟩ | ⟨rfl, hk⟩ | ⟨rfl, S, n, hk⟩
    · obtain ⟨its, _, pl, _⟩ := I.list hq
      refine ⟨pl.isList.typeIs, fun a e => ?_⟩
      cases e
      obtain ⟨o, n, e, c, hd, _⟩ := pl
      exact ⟨o, e, hd⟩
    · refine ⟨⟨o, I.kIn p o hk, hc⟩, fun a e => ?_⟩
      cases e
      exact ⟨o, I.kIn _ o hk, hd⟩
    · have z : ∃ o, s.heap.get? p = some o ∧ o.ExactDict := by
        rcases hk with ⟨kvs, hk⟩ | ⟨kvs, hk⟩
        · obtain ⟨_, _, _, _, o, _, _, e, ex, _⟩ := I.hok p _ hk
          exact ⟨o, e, ex⟩
        · obtain ⟨_, _, _, _, o, _, _, e, ex, _⟩ := I.hok p _ hk
          exact ⟨o, e, ex⟩
      obtain ⟨o, e, ex⟩ := z
      refine ⟨⟨o, e, ex.1⟩, fun a e2 => ?_⟩
      cases e2
      exact ⟨o, e, ex.2.1⟩
    · obtain ⟨o, _, _, _, e, ex, _⟩ := I.hok p _ hk
      refine ⟨⟨o, e, ex.1⟩, fun a e2 => ?_⟩
      cases e2
      exact ⟨o, e, ex.2.1⟩
  | _ => exact False.elim ty
def tBM (K : PySem.W.Frag) (T : String) (r : V → List V → Hp → VK → Prop) (to : TE) (t : TA) : TE := fun σ H Q => to σ H fun x H1 => tyV K T x H1 ∧ t σ H1 fun xs H2 => r x xs H2 Q
variable {o e : Expr} {es : List Expr} {to : TE} {t : TA} {name : Str} {apos cpos : Pos} {T id : String} {r : V → List V → Hp → VK → Prop}
theorem pe_bm (pa : PlainAttrs T) (slot : Slot T name id) (hty : typeOf (.builtin id) = pure (.type "method_descriptor")) (hm : MtR X id r) (ho : PE X o to) (ha : PA X (e :: es) t)
    (hbase : attributeBase o name X.env (eval o X.env) = eval o X.env := by rfl)
    (hfew : ((backTo cpos (starEach (e :: es) X.env)).all (fun x => !x.1) && (backToKw cpos (keywordEach [] X.env)).all (fun x => x.1.isSome)
      && decide ((e :: es).length + ([] : List Keyword).length + (if ([] : List Keyword).isEmpty then 0 else 1) < 30)) = true := by rfl)
    (hline : (apos.endLine == cpos.line) = true := by rfl) (hs : starEach (e :: es) X.env = (false, eval e X.env) :: starEach es X.env := by rfl) (hplain : (backTo cpos (starEach es X.env)).any (·.1) = false := by rfl) :
    PE X (.Call (.Attribute o name apos) (e :: es) [] cpos) (tBM X.K T r to t) := by
  intro pins s σ H Q I h
  refine wpAny_Call_method_late hbase hfew hline rfl (thn (ho pins s σ H _ I h) fun v s1 ⟨x, H1, I1, r1, ty, q1⟩ => ?_)
  obtain ⟨h1, h2⟩ := tyV_is I1 r1 ty
  refine ⟨T, id, pa, slot, hty, h1, h2, ?_⟩
  have hA := ha cpos pins s1 σ H1 _ I1 q1
  rw [hs] at hA ⊢
  refine Calls.callWith_builtin (by show (false || (backTo cpos (starEach es X.env)).any (·.1)) = false; rw [hplain] <;> rfl) (Calls.evalArgs_plain ?_)
  exact thn hA fun us s2 ⟨vs, H2, I2, r2, q2⟩ => hm pins s2 σ H2 x vs v us Q I2 r1 r2 q2
end
end L2
namespace L2
open PySem PySem.Spec PyProof.Rows
def MtM (X : Cx) (id : String) (r : V → List V → Hp → VK → Prop) : Prop :=
  ∀ (pins : List (Addr × Obj)) (s : Shared) (σ : St) (H : Hp) (x : V) (xs : List V) (v : Value) (us : List Value) (Q : VK), Inv X pins σ H s → RelV x v → Vals xs us → r x xs H Q →
    wpAny (model X.prog X.w) X.A (call (.builtin id) (v :: us)) (EP X pins σ Q) X.xe s
theorem Vals.one : ∀ {x : V} {us : List Value}, Vals [x] us → ∃ u, us = [u] ∧ RelV x u
  | _, _, .cons r .nil => ⟨_, rfl, r⟩
section
variable {X : Cx} {pins : List (Addr × Obj)} {σ : St} {H : Hp} {s : Shared} {l b : Addr} {xs ys zs : List V}
theorem Inv.lset {its its' : List Value} {n : Nat} {f : Array Value → Array Value} {t' : Nat} (I : Inv X pins σ H s) (hH : H l = some (.lst xs))
    (e : s.heap.get? l = some { cls := .type "list", data := .seq its.toArray n }) (hf : f its.toArray = its'.toArray) (hv : Vals ys its') (hz : ys.length ≤ sizeLine) :
    Inv X pins σ (upd H l (.lst ys)) { s with heap := s.heap.update l (Obj.mapSeq f), toks := t' } := by
  have q := PySem.IsL.update e f
  rw [hf] at q
  refine I.write (x := l) (e := l) (by rw [hH]; exact trivial) (.inl rfl) (fun b' u hb hu => (Heap.get?_update_other s.heap (Obj.mapSeq f) (Ne.symm hb)).trans hu) ⟨_, q⟩ ?_
  exact ⟨hz, its', _, hv, q⟩
theorem Inv.lnew {its : List Value} {t' : Nat} (I : Inv X pins σ H s) (hv : Vals ys its) (hz : ys.length ≤ sizeLine) :
    Inv X pins σ (upd H s.heap.objs.size (.lst ys)) { s with heap := s.heap.push { cls := .type "list", data := .seq its.toArray }, toks := t' } :=
  I.laid (fun _ _ q => Heap.get?_push_of_some _ q) (Nat.le_refl _) ⟨hz, its, 0, hv, Heap.get?_push_size _ rfl⟩
theorem Inv.fresh (I : Inv X pins σ H s) : H s.heap.objs.size = none := I.hok.fresh (Nat.le_refl _)
theorem Inv.lstM (I : Inv X pins σ H s) (hH : H l = some (.lst xs)) : xs.length ≤ sizeLine ∧ ∃ (its : List Value) (n : Nat), Vals xs its ∧ xs.length = its.length ∧ s.heap.get? l = some { cls := .type "list", data := .seq its.toArray n } := by
  obtain ⟨z, its, n, r, e⟩ := I.hok l _ hH
  exact ⟨z, its, n, r, r.length, e⟩
end
section
variable {X : Cx}
def rAppend : V → List V → Hp → VK → Prop := fun x vs H Q => ∃ l xs y, x = .ref l ∧ vs = [y] ∧ H l = some (.lst xs) ∧ xs.length < sizeLine ∧ Q .non (upd H l (.lst (xs ++ [y])))
theorem mt_append : MtM X "list.append" rAppend := by
  intro pins s σ H x vs v us Q I rx rv h
  obtain ⟨l, xs, y, rfl, rfl, hH, hz, q⟩ := h
  cases rx
  obtain ⟨u, rfl, ru⟩ := rv.one
  obtain ⟨z, its, n, r, hl, e⟩ := I.lstM hH
  refine call_meets F.slot_list_append ⟨_, e, rfl⟩ F.entry_list_append (F.args_list_append_2 _ _) (PySem.list_append l its.toArray n u (by rw [List.size_toArray]; omega)) ⟨e, ?_⟩
  refine ⟨.non, _, I.lset (its' := its ++ [u]) hH e (by simp) (r.append (.cons ru .nil)) ?_, rfl, q⟩
  rw [List.length_append, List.length_singleton]
  omega
end
section
variable {prog : Program} {w : World} {A : Around} {E : Value → Shared → Prop} {s : Shared}
end
section
variable {X : Cx}
end
end L2
namespace L2
open PySem PySem.Spec PyProof.Rows
section
variable {κ : Type} [DecidableEq κ]
def valV (kvs : List (κ × V)) (k : κ) : Option V := (kvs.find? fun kv => decide (kv.1 = k)).map (·.2)
def putK (kvs : List (κ × V)) (k : κ) (v : V) : List (κ × V) :=
  if (kvs.any fun kv => decide (kv.1 = k)) = true then kvs.map (fun kv => if kv.1 = k then (kv.1, v) else kv) else kvs ++ [(k, v)]
theorem valV_pos {p : κ × V} {r : List (κ × V)} {k : κ} (e : p.1 = k) : valV (p :: r) k = some p.2 := by simp [valV, List.find?_cons, e]
theorem valV_neg {p : κ × V} {r : List (κ × V)} {k : κ} (e : ¬ p.1 = k) : valV (p :: r) k = valV r k := by simp [valV, List.find?_cons, e]
theorem valV_any (k : κ) : ∀ kvs : List (κ × V), (kvs.any fun kv => decide (kv.1 = k)) = (valV kvs k).isSome
  | [] => rfl
  | p :: r => by
    rw [List.any_cons]
    by_cases e : p.1 = k
    · simp only [valV_pos e, decide_eq_true e, Bool.true_or, Option.isSome_some]
    · rw [valV_neg e, decide_eq_false e, Bool.false_or]; exact valV_any k r
theorem length_putK (kvs : List (κ × V)) (k : κ) (v : V) : (putK kvs k v).length ≤ kvs.length + 1 := by
  unfold putK
  split
  · rw [List.length_map]; omega
  · rw [List.length_append, List.length_cons, List.length_nil]; omega
theorem RelO.isSome_eq {o : Option V} {u : Option Value} (r : RelO o u) : o.isSome = u.isSome := by
  cases o with
  | none => cases u with
    | none => rfl
    | some _ => exact (show False from r).elim
  | some _ => cases u with
    | none => exact (show False from r).elim
    | some _ => rfl
theorem KV.val {kvs : List (κ × V)} {vs : List (κ × Value)} (r : KV kvs vs) (k : κ) : RelO (valV kvs k) (valueAt vs k) := by
  unfold KV at r
  induction r with
  | nil => exact True.intro
  | @cons p q ps qs h t ih =>
    obtain ⟨h1, h2⟩ := h
    by_cases e : p.1 = k
    · have e' : q.1 = k := h1.symm.trans e
      have b : valueAt (q :: qs) k = some q.2 := by simp [valueAt, List.find?_cons, e']
      rw [valV_pos e, b]; exact h2
    · have e' : ¬ q.1 = k := fun z => e (h1.trans z)
      have b : valueAt (q :: qs) k = valueAt qs k := by simp [valueAt, List.find?_cons, e']
      rw [valV_neg e, b]; exact ih
theorem KV.any {kvs : List (κ × V)} {vs : List (κ × Value)} (r : KV kvs vs) (k : κ) : (kvs.any fun kv => decide (kv.1 = k)) = vs.any fun kv => decide (kv.1 = k) := by
  unfold KV at r
  induction r with
  | nil => rfl
  | cons h t ih => rw [List.any_cons, List.any_cons, ih, h.1]
theorem KV.repl {kvs : List (κ × V)} {vs : List (κ × Value)} (r : KV kvs vs) (k : κ) {y : V} {u : Value} (ry : RelV y u) :
    KV (kvs.map fun kv => if kv.1 = k then (kv.1, y) else kv) (vs.map fun kv => if kv.1 = k then (kv.1, u) else kv) := by
  unfold KV at r ⊢
  induction r with
  | nil => exact .nil
  | @cons p q ps qs h t ih =>
    rw [List.map_cons, List.map_cons]
    refine .cons ?_ ih
    obtain ⟨h1, h2⟩ := h
    by_cases e : p.1 = k
    · rw [if_pos e, if_pos (h1.symm.trans e)]; exact ⟨h1, ry⟩
    · rw [if_neg e, if_neg (fun z => e (h1.trans z))]; exact ⟨h1, h2⟩
theorem KV.put {kvs : List (κ × V)} {vs : List (κ × Value)} (r : KV kvs vs) (k : κ) {y : V} {u : Value} (ry : RelV y u) : KV (putK kvs k y) (stored vs k u) := by
  unfold putK stored
  rw [r.any k]
  by_cases e : (vs.any fun kv => decide (kv.1 = k)) = true
  · rw [if_pos e, if_pos e]; exact r.repl k ry
  · rw [if_neg e, if_neg e]; exact Paired.snoc r ⟨rfl, ry⟩
theorem KV.length {kvs : List (κ × V)} {vs : List (κ × Value)} (r : KV kvs vs) : kvs.length = vs.length := Paired.length r
end
theorem kV_is {P : Program} {w : World} {k : Key} {u : Value} (r : RelV (kV k) u) : (mixKind P w).is k u = true := by
  cases k with
  | inl i => obtain ⟨t, e⟩ := (show ∃ t, u = Value.int i t from r); subst e; exact mixKind_int P w i t
  | inr x => obtain ⟨t, e⟩ := (show ∃ t, u = Value.str x t from r); subst e; exact mixKind_str P w x t
theorem items_are {P : Program} {w : World} : ∀ {ks : List Key} {us : List Value}, Vals (ks.map kV) us → ItemsAre (mixKind P w) ks us
  | [], _, r => by rw [List.map_nil] at r; cases r; exact .nil
  | k :: ks, _, r => by
    rw [List.map_cons] at r
    cases r with
    | cons h t => exact .cons (kV_is h) (items_are t)
abbrev KT (H : Hp) : List (List Key × V) → List (List Key × Addr × Value) → Prop := Paired fun p q => p.1 = q.1 ∧ H q.2.1 = some (.tup (p.1.map kV)) ∧ RelV p.2 q.2.2
theorem KT.val {H : Hp} {kvs : List (List Key × V)} {xs : List (List Key × Addr × Value)} (r : KT H kvs xs) (k : List Key) : RelO (valV kvs k) ((atKey xs k).map (·.2)) := by
  induction r with
  | nil => exact True.intro
  | @cons p q ps qs h t ih =>
    obtain ⟨h1, _, h2⟩ := h
    by_cases e : p.1 = k
    · have e' : q.1 = k := h1.symm.trans e
      have b : atKey (q :: qs) k = some q.2 := by simp [atKey, List.find?_cons, e']
      rw [valV_pos e, b]; exact h2
    · have e' : ¬ q.1 = k := fun z => e (h1.trans z)
      have b : atKey (q :: qs) k = atKey qs k := by simp [atKey, List.find?_cons, e']
      rw [valV_neg e, b]; exact ih
theorem KT.repl {H : Hp} {kvs : List (List Key × V)} {xs : List (List Key × Addr × Value)} (r : KT H kvs xs) (k : List Key) {y : V} {u : Value} (ry : RelV y u) :
    KT H (kvs.map fun kv => if kv.1 = k then (kv.1, y) else kv) (xs.map (putAt k u)) := by
  induction r with
  | nil => exact .nil
  | @cons p q ps qs h t ih =>
    rw [List.map_cons, List.map_cons]
    refine .cons ?_ ih
    obtain ⟨h1, h2, h3⟩ := h
    unfold putAt
    by_cases e : p.1 = k
    · rw [if_pos e, if_pos (h1.symm.trans e)]; exact ⟨h1, h2, ry⟩
    · rw [if_neg e, if_neg (fun z => e (h1.trans z))]; exact ⟨h1, h2, h3⟩
theorem KT.put {H : Hp} {kvs : List (List Key × V)} {xs : List (List Key × Addr × Value)} (r : KT H kvs xs) (k : List Key) {b : Addr} {y : V} {u : Value} (hb : H b = some (.tup (k.map kV))) (ry : RelV y u) :
    KT H (putK kvs k y) (storedH xs k b u) := by
  have e : (kvs.any fun kv => decide (kv.1 = k)) = (atKey xs k).isSome := by
    rw [valV_any, (r.val k).isSome_eq, Option.isSome_map]
  unfold putK storedH
  rw [e]
  by_cases q : (atKey xs k).isSome = true
  · rw [if_pos q, if_pos q]; exact r.repl k ry
  · rw [if_neg q, if_neg q]; exact Paired.snoc r ⟨rfl, hb, ry⟩
theorem KT.keeps {H H' : Hp} {kvs : List (List Key × V)} {xs : List (List Key × Addr × Value)} (r : KT H kvs xs) (ht : ∀ b ys, H b = some (.tup ys) → H' b = some (.tup ys)) : KT H' kvs xs :=
  Paired.mapP r fun _ _ z => ⟨z.1, ht _ _ z.2.1, z.2.2⟩
section
variable {P : Program} {w : World} {H : Hp} {h : Heap} {a : Addr}
theorem rd_of {u : HO} (ok : HOk P w H h) (e : Rd H a u) : ObjOk P w H h a u := e.ok ok
theorem dk_rd {kvs : List (Key × V)} (ok : HOk P w H h) (e : Rd H a (.dK kvs)) : kvs.length ≤ sizeLine ∧ (a == sysModules) = false ∧ ∃ vs, KV kvs vs ∧ h.DictOf (mixKind P w) a vs :=
  show ObjOk P w H h a (.dK kvs) from rd_of ok e
theorem dk_of {kvs : List (Key × V)} (ok : HOk P w H h) (e : H a = some (.dK kvs)) : kvs.length ≤ sizeLine ∧ (a == sysModules) = false ∧ ∃ vs, KV kvs vs ∧ h.DictOf (mixKind P w) a vs := dk_rd ok (.inl e)
theorem key_of {ks : List Key} (ok : HOk P w H h) (e : H a = some (.tup (ks.map kV))) : (tupleKind (mixKind P w)).is h ks a := by
  obtain ⟨_, its, r, o, h1, h2, n, h3⟩ := (show ObjOk P w H h a (.tup (ks.map kV)) from ok a _ e)
  exact ⟨o, its.toArray, n, h1, h2, h3, by simpa using items_are r⟩
theorem dt_rd {kvs : List (List Key × V)} (ok : HOk P w H h) (e : Rd H a (.dT kvs)) : kvs.length ≤ sizeLine ∧ (a == sysModules) = false ∧
    ∃ xs, KT H kvs xs ∧ h.DictOfH (tupleKind (mixKind P w)) a xs := by
  obtain ⟨z, y, xs, r, o, es, ep, h1, h2, h3, h4, h5⟩ := (show ObjOk P w H h a (.dT kvs) from rd_of ok e)
  refine ⟨z, y, xs, r, o, es, ep, h1, h2, h3, h4, fun x hx => ?_, h5⟩
  have all : ∀ {l : List (List Key × V)} {m : List (List Key × Addr × Value)}, KT H l m → ∀ x ∈ m, (tupleKind (mixKind P w)).is h x.1 x.2.1 := by
    intro l m q
    induction q with
    | nil => intro x hx; exact nomatch hx
    | @cons p q ps qs hq t ih =>
      intro x hx
      rcases List.mem_cons.mp hx with e | hx
      · subst e
        exact key_of ok (by rw [← hq.1]; exact hq.2.1)
      · exact ih x hx
  exact all r x hx
theorem dt_of {kvs : List (List Key × V)} (ok : HOk P w H h) (e : H a = some (.dT kvs)) : kvs.length ≤ sizeLine ∧ (a == sysModules) = false ∧
    ∃ xs, KT H kvs xs ∧ h.DictOfH (tupleKind (mixKind P w)) a xs := dt_rd ok (.inl e)
end
def DGet (H : Hp) (a : Addr) (y : V) (r : Option V) : Prop :=
  (∃ kvs k, Rd H a (.dK kvs) ∧ y = kV k ∧ r = valV kvs k) ∨ ∃ kvs k b, Rd H a (.dT kvs) ∧ y = .ref b ∧ H b = some (.tup (k.map kV)) ∧ r = valV kvs k
def DPut (H : Hp) (a : Addr) (y v : V) (H' : Hp) : Prop :=
  (∃ kvs k, H a = some (.dK kvs) ∧ y = kV k ∧ kvs.length < sizeLine ∧ H' = upd H a (.dK (putK kvs k v))) ∨
  ∃ kvs k b, H a = some (.dT kvs) ∧ y = .ref b ∧ H b = some (.tup (k.map kV)) ∧ kvs.length < sizeLine ∧ H' = upd H a (.dT (putK kvs k v))
theorem DGet.t {H : Hp} {a b : Addr} {kvs : List (List Key × V)} {k : List Key} (e : H a = some (.dT kvs)) (eb : H b = some (.tup (k.map kV))) : DGet H a (.ref b) (valV kvs k) := .inr ⟨kvs, k, b, .inl e, rfl, eb, rfl⟩
theorem DPut.t {H : Hp} {a b : Addr} {kvs : List (List Key × V)} {k : List Key} {v : V} (e : H a = some (.dT kvs)) (eb : H b = some (.tup (k.map kV))) (hl : kvs.length < sizeLine) :
    DPut H a (.ref b) v (upd H a (.dT (putK kvs k v))) := .inr ⟨kvs, k, b, e, rfl, eb, hl, rfl⟩
section
variable {X : Cx} {pins : List (Addr × Obj)} {σ : St} {H : Hp} {s : Shared} {a : Addr} {y v : V} {u r : Value} {o : Option V} {A : Around} {E : Value → Shared → Prop}
theorem Inv.big (I : Inv X pins σ H s) : sysModules < s.heap.objs.size := by
  have h : mainGlobals < s.heap.objs.size := (I.mod.glob.keeps I.bk).lt
  exact Nat.lt_trans (by decide) h
theorem d_in {Q : Value → Shared → Prop} (hu : A.units + 1 < cLine) (I : Inv X pins σ H s) (g : DGet H a y o) (ry : RelV y u) (h : ∀ s', Inv X pins σ H s' → Q (.bool o.isSome) s') :
    wpAny (model X.prog X.w) A (compareOp .In u (.ref a)) Q E s := by
  rcases g with ⟨kvs, k, e, ey, l⟩ | ⟨kvs, k, b, e, ey, eb, l⟩
  · subst ey
    obtain ⟨z, hd, vs, rel, dd⟩ := dk_rd I.hok e
    refine wpAny_in_of (kV_is ry) hd dd.mapOf ?_
    rw [← (rel.val k).isSome_eq, ← l]
    exact h _ (I.tok _)
  · subst ey
    cases (show u = Value.ref b from ry)
    obtain ⟨z, hd, xs, rel, dd⟩ := dt_rd I.hok e
    refine wpAny_in_heap (tupleKind_room_in1 hu) (key_of I.hok eb) hd dd ?_
    have q := (rel.val k).isSome_eq
    rw [Option.isSome_map] at q
    rw [← q, ← l]
    exact h _ (I.tok _)
theorem d_write {h' : Heap} {t' : Nat} {ob : HO} (I : Inv X pins σ H s) (mu : Mut (H a)) (hs : Heap.SameBut a s.heap h') (he : ∃ q, h'.get? a = some q) (new : ObjOk X.prog X.w (upd H a ob) h' a ob) :
    Inv X pins σ (upd H a ob) { s with heap := h', toks := t' } :=
  I.write (x := a) (e := a) mu (.inl rfl) (fun b q hb z => (hs.2 b hb).trans z) he new
theorem dk_new {P : Program} {w : World} {H' : Hp} {h' : Heap} {kvs : List (Key × V)} {vs : List (Key × Value)} (z : kvs.length ≤ sizeLine) (hd : (a == sysModules) = false) (rel : KV kvs vs) (dd : h'.DictOf (mixKind P w) a vs) :
    ObjOk P w H' h' a (.dK kvs) := ⟨z, hd, vs, rel, dd⟩
theorem d_setItem {H' : Hp} {Q : Unit → Shared → Prop} (hu : A.units + 1 < cLine) (I : Inv X pins σ H s) (g : DPut H a y v H') (ry : RelV y u) (rv : RelV v r) (h : ∀ s', Inv X pins σ H' s' → Q () s') :
    wpAny (model X.prog X.w) A (setItem (.ref a) u r) Q E s := by
  rcases g with ⟨kvs, k, e, ey, l, eH⟩ | ⟨kvs, k, b, e, ey, eb, l, eH⟩
  · subst ey eH
    obtain ⟨z, hd, vs, rel, dd⟩ := dk_of I.hok e
    have hz : vs.length ≤ sizeLine := by rw [← rel.length]; exact z
    have hl : (putK kvs k v).length ≤ sizeLine := by have := length_putK kvs k v; omega
    refine wpAny_setItem_pairs (hsz := hz) (kV_is ry) dd fun h' dd' hs => h _ ?_
    have he : ∃ q, h'.get? a = some q := let ⟨q, _, _, hq, _⟩ := dd'; ⟨q, hq⟩
    exact d_write I (by rw [e]; exact True.intro) hs he (dk_new hl hd (rel.put k rv) dd')
  · subst ey eH
    cases (show u = Value.ref b from ry)
    obtain ⟨z, hd, xs, rel, dd⟩ := dt_of I.hok e
    have hz : xs.length ≤ sizeLine := by rw [← Paired.length rel]; exact z
    have hl : (putK kvs k v).length ≤ sizeLine := by have := length_putK kvs k v; omega
    refine wpAny_setItem_heap (hsz := hz) (tupleKind_room_in1 hu) (key_of I.hok eb) dd fun h' dd' hs => h _ ?_
    obtain ⟨q, es, ep, hq, h2, h3, h4, _, h5⟩ := dd'
    refine d_write I (by rw [e]; exact True.intro) hs ⟨q, hq⟩ ⟨hl, hd, _, (rel.put k eb rv).keeps fun c ys ec => ?_, q, es, ep, hq, h2, h3, h4, h5⟩
    rw [upd_ne (ne_of ec e (fun z => nomatch z))]
    exact ec
end
section
variable {X : Cx} {pins : List (Addr × Obj)} {σ : St} {H : Hp} {s : Shared} {a : Addr} {kvs : List (Key × V)} {k : Key} {u : Value} {A : Around} {E : Value → Shared → Prop}
end
def tDIn (ty td : TE) : TE := fun σ H Q => ty σ H fun y H1 => td σ H1 fun x H2 => ∃ a o, x = .ref a ∧ DGet H2 a y o ∧ Q (.bl o.isSome) H2
def sDPut (td ty tv : TE) : TS := fun D σ H => tv σ H fun v H1 => td σ H1 fun x H2 => ty σ H2 fun y H3 => ∃ a H4, x = .ref a ∧ DPut H3 a y v H4 ∧ D.nx σ H4
section
variable {X : Cx} {o i e value : Expr} {pos pos' tpos : Pos} {td ty tv : TE}
theorem pc_din (hu : X.A.units + 1 < cLine) (hi : PE X i ty) (ho : PE X o td) : PC X .In i o (tDIn ty td) := by
  intro pins s σ H Q I h
  refine thn (hi pins s σ H _ I h) fun iv s1 ⟨y, H1, I1, ry, q1⟩ => thn (ho pins s1 σ H1 _ I1 q1) fun u s2 ⟨x, H2, I2, rx, a, ov, ex, g, q2⟩ => ?_
  subst ex
  obtain rfl : u = Value.ref a := rx
  exact d_in hu I2 g ry fun s3 I3 => ⟨.bl ov.isSome, H2, I3, rfl, q2⟩
theorem ps_dput (hu : X.A.units + 1 < cLine) (ho : PE X o td) (hi : PE X i ty) (hv : PE X value tv) (hs : swapsWith value (some (.Subscript o i pos')) pos.line X.env = pure false) :
    PS X (.Assign [.Subscript o i pos'] value pos) (sDPut td ty tv) := by
  intro pins s σ H D I h
  refine wpAny_Assign_Subscript (thn (hv pins s σ H _ I h) fun r s1 ⟨v, H1, I1, rv, q1⟩ => thn (ho pins s1 σ H1 _ I1 q1) fun u s2 ⟨x, H2, I2, rx, q2⟩ => thn (hi pins s2 σ H2 _ I2 q2) fun iv s3 ⟨y, H3, I3, ry, a, H4, ex, g, q3⟩ => ?_) hs
  subst ex
  obtain rfl : u = Value.ref a := rx
  exact d_setItem hu I3 g ry rv fun s4 I4 => ⟨σ, H4, I4, q3⟩
end
theorem dt_empty {P : Program} {w : World} {H : Hp} (h : Heap) (hb : sysModules < h.objs.size) : ObjOk P w H (h.push { cls := .type "dict", data := .dict #[] }) h.objs.size (.dT []) :=
  ⟨Nat.zero_le _, beq_eq_false_iff_ne.mpr (Ne.symm (Nat.ne_of_lt hb)), [], .nil, _, #[], 0, Heap.get?_push_size _ rfl, ⟨rfl, rfl, rfl⟩, rfl, rfl, List.nodup_nil⟩
def tDNewT : TE := fun _ H Q => ∀ p, H p = none → Q (.ref p) (upd H p (.dT []))
section
variable {X : Cx} {pos : Pos}
theorem pe_dnewT : PE X (.Dict [] [] pos) tDNewT := fun pins s σ H Q I h =>
  wpAny_Dict_empty ⟨.ref s.heap.objs.size, _, I.laid (a := s.heap.objs.size) (o := .dT []) (t' := s.toks) (fun _ _ q => Heap.get?_push_of_some _ q) (Nat.le_refl _) (dt_empty s.heap I.big), rfl, h _ (I.hok.fresh (Nat.le_refl _))⟩
end
section
variable {X : Cx} {pins : List (Addr × Obj)} {σ : St} {H : Hp} {s : Shared} {a : Addr} {y d : V} {u r : Value} {o : Option V} {A : Around} {E : Value → Shared → Prop}
end
section
variable {X : Cx} {o e f : Expr} {apos cpos : Pos} {td ty tx : TE}
end
section
variable {X : Cx} {pins : List (Addr × Obj)} {σ : St} {H : Hp} {s : Shared} {a : Addr} {kvs : List (Key × V)} {A : Around} {E : Value → Shared → Prop}
end
section
variable {X : Cx} {pins : List (Addr × Obj)} {σ : St} {H : Hp} {s : Shared} {a : Addr} {y : V} {u : Value} {A : Around} {E : Value → Shared → Prop}
end
end L2
namespace Att
open PySem PySem.W PySem.Calls PyProof.Rows
theorem ints_of_wellAll {P : Params} {h : Heap} : ∀ (ns : List Int) (vs : List Value), WellAll P h vs (ns.map WData.int) → IntsAre vs ns := by
  intro ns
  induction ns with
  | nil =>
    intro vs w
    rw [List.map_nil] at w
    cases w
    exact .nil
  | cons n ns ih =>
    intro vs w
    rw [List.map_cons] at w
    cases w with
    | cons a b =>
      cases a
      exact .cons _ _ (ih _ b)
theorem script_of {l : OpenLaw} {n : Nat} (hn : l.most = some n) {P : Params} {h : Heap} {args : List WData} {vals : List Value}
    (hpre : l.row.toRowW.claim.pre args = true) (hwl : WellAll P h vals args) :
    ∃ a vs ns, vals = [Value.ref a] ∧ args = [WData.list (ns.map WData.int)] ∧ h.get? a = some { cls := .type "list", data := .seq vs.toArray } ∧ IntsAre vs ns ∧ ns.length ≤ n := by
  have hsh : WShape.hasAll [] args [.list .int] = true := (pre_splitW hpre).1
  have hc : l.pre.holds [] { args := args } = true := (pre_splitW hpre).2
  obtain ⟨d, r, rfl, h1, h2⟩ := hasAllW_cons hsh
  obtain rfl := hasAllW_nil h2
  obtain ⟨xs, rfl, h3⟩ := hasW_list h1
  obtain ⟨ns, rfl⟩ := items_int h3
  have hlen : ns.length ≤ n := by
    unfold OpenLaw.pre at hc
    have h4 : (WTm.not (.lt (.lit (.int (n : Int))) (.len (.arg 0)))).holds [] { args := [.list (ns.map .int)] } = true := by
      have h4 := (holds_andW hc).1
      rw [hn] at h4
      exact h4
    have h5 := condW_of h4 (w_not (w_lt w_lit (w_len_list (w_arg rfl))))
    rw [List.length_map] at h5
    refine Nat.le_of_not_lt fun q => ?_
    have q' : (n : Int) < ((ns.length : Nat) : Int) := by omega
    first
      | (rw [decide_eq_true q'] at h5; exact absurd h5 (by decide))
      | (simp at h5; omega)
  cases hwl with
  | cons w1 w2 =>
    cases w2
    cases w1 with
    | list ho hall => exact ⟨_, _, ns, rfl, rfl, ho, ints_of_wellAll ns _ hall, hlen⟩
theorem post_true (l : OpenLaw) (args : List WData) : l.row.toRowW.claim.post args (.bool true) args = true :=
  postW_of (r := l.row.toRowW) (X := (true == true))
    (show WShape.has [] (.bool true) .bool = true by first | rfl | decide | simp [WShape.has, WShape.arms, WShape.armsAll])
    (show (WTm.eq .res (.lit (.bool true))).value [] { args := args, res := some (.bool true), after := args } = some (.bool (true == true)) from w_eq_bool (w_res rfl) w_lit) rfl
theorem attach_call {l : OpenLaw} {n : Nat} {q : Program} {loose : List Str} {XP : (Str → Option Value) → Heap → Prop} {YP : World → Heap → Prop} {d : DefRec}
    (hn : l.most = some n) (hdf : d.params.defaults = [])
    (call : ∀ (w : World) (s₀ s₁ : Shared) (mg mb : Str → Option Value) (fa : Addr) (o : Obj) (pm cd doc : Value) (a : Addr) (vs : List Value) (ns : List Int),
      Ground q loose [] XP w s₀ mg mb s₁.heap → YP w s₁.heap →
      s₁.heap.get? fa = some o → o.data = .func (docDef d.name d.params d.body d.scope pm cd doc) → s₁.heap.CodeRec cd d.name → mg d.name = some (.ref fa) →
      s₁.heap.get? a = some { cls := .type "list", data := .seq vs.toArray } → IntsAre vs ns → ns.length ≤ n → s₁.gens = #[] →
      codeAny (model l.prog w) callerA (.call (.ref fa) ⟨[.ref a], []⟩) (fun r s' => r = .ok (.ret (.bool true)) ∧ OldK s₁.heap s'.heap ∧ s'.os = s₁.os ∧ AllBare s'.gens) s₁) :
    WalkO q loose XP YP l.row.toRowW d [] (fun f vs => PySem.call f vs) := by
  intro w s₀ s₁ mg mb G Y fa o pm cd doc dV kV ho hd hcd hD hmg hg args vals as hpre hlay hrd hwl hlo
  obtain rfl : dV = .none := Dflts.none hD hdf
  obtain rfl : kV = .none := Dflts.noKw hD
  obtain ⟨a, vs, ns, rfl, rfl, hobj, hints, hlen⟩ := script_of hn hpre hwl
  refine enter_call (codeAny_mono (call w s₀ s₁ mg mb fa o pm cd doc a vs ns G Y ho (fd_plain hd) hcd hmg hobj hints hlen hg) fun r s' hq => ?_)
  obtain ⟨rfl, h2, h3, h4⟩ := hq
  exact ⟨.inl ⟨.bool true, .bool true, [], rfl, fun _ => rfl, .bool true, post_true l _, fun _ => ⟨List.Pairwise.nil, fun _ hm => (nomatch hm)⟩⟩, h2, h3, h4⟩
section
variable {prog : Program} {w : World} {A : Around} {E : Value → Shared → Prop} {s : Shared} {K : Frag}
def ledger (h : Heap) (L d : Addr) : List (Addr × Obj) := (List.range h.objs.size).filterMap fun a => if a = L ∨ a = d then none else (h.get? a).map fun o => (a, o)
end
end Att
namespace L2
open PySem PySem.Spec PyProof.Rows
theorem vals_ints : ∀ {vs : List Value} {ns : List Int}, IntsAre vs ns → Vals (ns.map V.int) vs
  | _, _, .nil => .nil
  | _, _, .cons n t h => .cons ⟨t, rfl⟩ (vals_ints h)
def Only (H : Hp) : Prop := ∀ b, H b = none ∨ ∃ o xs, H b = some (.frz o (.lst xs))
theorem law_call {P : Program} {w : World} {K : PySem.W.Frag} {mg mb : Str → Option Value} {CX : CXT} {k : Nat} {fa a : Addr} {fd : FuncData} {x : Str} {sp : Sp} {s₁ : Shared} {vs : List Value} {ns : List Int}
    (KX : K.In s₁.heap) (hns : s₁.heap.Ns mainGlobals mg) (hb : s₁.heap.Ns builtinsNs mb) (hbb : ∀ x : Str, x ≠ "__name__" → mb x = bootBuiltins x) (hlim : s₁.heap.NoLimit) (hg : s₁.gens = #[])
    (ha : s₁.heap.get? a = some { cls := .type "list", data := .seq vs.toArray }) (hi : IntsAre vs ns) (hl : ns.length ≤ sizeLine) (hr : Room k callerA)
    (F : ∀ base : Heap, K.In base → base.Ns mainGlobals mg → FnOk P w K mg base CX k fa fd [x] sp) (hbind : ∀ (s : Shared) (u : Value), BindsTo s fd ⟨[u], []⟩ [(x, u)])
    (hsp : ∀ H : Hp, Only H → SqL K H a (ns.map V.int) → sp [.ref a] H (fun v _ => v = .bl true) fun _ _ _ => False)
    (hCX : ∀ H e s', CX [] H s₁ (fun _ _ _ => False) e s' → False) :
    codeAny (model P w) callerA (.call (.ref fa) ⟨[.ref a], []⟩) (fun r s' => r = .ok (.ret (.bool true)) ∧ OldK s₁.heap s'.heap ∧ s'.os = s₁.os ∧ AllBare s'.gens) s₁ := by
  have rv := vals_ints hi
  have lenV := hi.length
  -- from an abstract heap in which nothing but the script may be tracked
  have core : ∀ H : Hp, Only H → SqL K H a (ns.map V.int) → HOk P w H s₁.heap → (∀ b, H b ≠ none → b = a) → (H a ≠ none → K.lookup a = none) →
      codeAny (model P w) callerA (.call (.ref fa) ⟨[.ref a], []⟩) (fun r s' => r = .ok (.ret (.bool true)) ∧ OldK s₁.heap s'.heap ∧ s'.os = s₁.os ∧ AllBare s'.gens) s₁ := by
    intro H hO hS hok hA hK
    have base_of : ∀ {b : Addr} {o : Obj}, s₁.heap.get? b = some o → H b = none → (hidT s₁.heap H).get? b = some o := fun e n => hidT_get e n
    have noA : ∀ {b : Addr} {o : Obj} {es : Array DictEntry} {ep : Nat}, s₁.heap.get? b = some o → o.data = .dict es ep → H b = none := fun {b o es ep} e d => by
      cases q : H b with
      | none => rfl
      | some u =>
        have e' : b = a := hA b (by rw [q]; simp)
        subst e'
        rw [ha] at e; cases e
        have d' : Data.seq vs.toArray _ = Data.dict es ep := d
        cases d'
    have nsK : ∀ {b : Addr} {m : Str → Option Value}, s₁.heap.Ns b m → (hidT s₁.heap H).Ns b m := fun {b m} ⟨o, es, ep, e, d, r⟩ => ⟨o, es, ep, base_of e (noA e d), d, r⟩
    have hKb : K.In (hidT s₁.heap H) := fun b o e => base_of (KX b o e) (by
      cases q : H b with
      | none => rfl
      | some u =>
        have e' : b = a := hA b (by rw [q]; simp)
        subst e'
        rw [hK (by rw [q]; simp)] at e; cases e)
    have hM : Mod K mg (hidT s₁.heap H) := ⟨hKb, nsK hns, ⟨mb, nsK hb, hbb⟩, let ⟨mc, h1, h2⟩ := hlim; ⟨mc, nsK h1, h2⟩⟩
    have e0 : Env0 P w K mg (hidT s₁.heap H) callerA [] s₁ H := ⟨rfl, hM, fun b o e => of_hidT e, Nat.le_of_eq (hidT_size _ _), trivial, fun b hb => absurd (show b ∈ ([] : List Addr) from hb) (by simp), hok, .of_eq hg⟩
    refine codeAny_mono ((F _ hKb (nsK hns)).run callerA [] s₁ H ⟨[.ref a], []⟩ [.ref a] [.ref a] _ _ hr e0 (hbind s₁ (.ref a)) (.cons rfl .nil) (hsp H hO hS)) fun r s' h => ?_
    cases r with
    | error e => exact (hCX H e s' h).elim
    | ok fl =>
      cases fl with
      | next => exact False.elim h
      | brk => exact False.elim h
      | cont => exact False.elim h
      | ret u =>
        obtain ⟨v, H', os, bare, un, hok', r', q⟩ := h
        have q' : v = .bl true := q
        subst q'
        obtain rfl : u = Value.bool true := r'
        refine ⟨rfl, OldK.of_keep fun b o e => ?_, os, bare⟩
        cases q : H b with
        | none => exact un.keep b o e q (by intro z; exact absurd (show b ∈ ([] : List Addr) from z) (by simp)) (by simp)
        | some u =>
          rcases hO b with z | ⟨ob, xs, z⟩
          · rw [q] at z; cases z
          · have z2 := un.frzs b ob _ z
            obtain ⟨e1, _⟩ := hok b _ z
            obtain ⟨e2, _⟩ := hok' b _ z2
            rw [e] at e1; cases e1
            exact e2
  cases hk : K.lookup a with
  | some o =>
    -- the script is one of the module's own objects
    have e := KX a o hk
    rw [ha] at e
    cases e
    refine core (fun _ => none) (fun _ => .inl rfl) (.inr ⟨_, vs.toArray, _, hk, rfl, rfl, rfl, by rw [List.size_toArray, lenV]; exact hl, by simpa using rv⟩) (fun b u z => by have z' : (none : Option HO) = some u := z; cases z') (fun b z => absurd rfl z) fun z => absurd rfl z
  | none =>
    refine core (fun b => if b = a then some (.frz { cls := .type "list", data := .seq vs.toArray } (.lst (ns.map V.int))) else none) (fun b => ?_) (.inl (.inr ⟨{ cls := .type "list", data := .seq vs.toArray }, if_pos rfl⟩)) (fun b u z => ?_) (fun b z => ?_) fun _ => hk
    · by_cases hb : b = a
      · exact .inr ⟨_, _, if_pos hb⟩
      · exact .inl (if_neg hb)
    · by_cases hb : b = a
      · have z' := (if_pos hb).symm.trans z
        cases z'
        subst hb
        exact ⟨ha, by rw [List.length_map]; exact hl, vs, _, rv, ha⟩
      · have z' := (if_neg hb).symm.trans z
        cases z'
    · by_cases hb : b = a
      · exact hb
      · exact absurd (if_neg hb) z
end L2
namespace L2
open PySem PySem.Spec PyProof.Rows
theorem walk_of {l : PySem.W.OpenLaw} {n k : Nat} {q : Program} {loose : List Str} {XP : (Str → Option Value) → Heap → Prop} {YP : World → Heap → Prop} {d : DefRec} {K : Params → PySem.W.Frag} {CX : World → CXT} {sp : World → Sp} {x : Str}
    (hn : l.most = some n) (hn2 : n ≤ sizeLine) (hdf : d.params.defaults = []) (hr : Room k callerA)
    (hY : ∀ (w : World) (h : Heap), YP w h → (K w.params).In h)
    (F : ∀ (w : World) (mg : Str → Option Value) (fa : Addr) (h : Heap), (K w.params).In h → h.Ns mainGlobals mg → mg d.name = some (.ref fa) →
      ∃ fd : FuncData, (∀ (s : Shared) (u : Value), BindsTo s fd ⟨[u], []⟩ [(x, u)]) ∧
        ∀ base : Heap, (K w.params).In base → base.Ns mainGlobals mg → FnOk l.prog w (K w.params) mg base (CX w) k fa fd [x] (sp w))
    (hsp : ∀ (w : World) (H : Hp) (a : Addr) (ns : List Int), ns.length ≤ n → Only H → SqL (K w.params) H a (ns.map V.int) → sp w [.ref a] H (fun v _ => v = .bl true) fun _ _ _ => False)
    (hCX : ∀ (w : World) (H : Hp) (s : Shared) (e : Value) (s' : Shared), CX w [] H s (fun _ _ _ => False) e s' → False) :
    PySem.W.WalkO q loose XP YP l.row.toRowW d [] (fun f vs => PySem.call f vs) := by
  refine Att.attach_call hn hdf fun w s₀ s₁ mg mb fa o pm cd doc a vs ns G Y ho hd hcd hmg hobj hints hlen hg => ?_
  have KX := hY w _ Y
  obtain ⟨fd, hb, hF⟩ := F w mg fa _ KX G.T.g hmg
  exact law_call KX G.T.g G.T.b G.T.builtins G.T.nolimit hg hobj hints (Nat.le_trans hlen hn2) hr hF hb (fun H hO hS => hsp w H a ns hlen hO hS) fun H e s' => hCX w H s₁ e s'
theorem walk_ofK {l : PySem.W.OpenLaw} {n k : Nat} {q : Program} {loose : List Str} {XP : (Str → Option Value) → Heap → Prop} {YP : World → Heap → Prop} {d : DefRec} {K : Params → PySem.W.Frag} {CX : CXT} {sp : PySem.W.Frag → Sp} {x : Str}
    (hn : l.most = some n) (hn2 : n ≤ sizeLine) (hdf : d.params.defaults = []) (hr : Room k callerA)
    (hY : ∀ (w : World) (h : Heap), YP w h → (K w.params).In h)
    (F : ∀ (w : World) (mg : Str → Option Value) (fa : Addr) (h : Heap), (K w.params).In h → h.Ns mainGlobals mg → mg d.name = some (.ref fa) →
      ∃ fd : FuncData, (∀ (s : Shared) (u : Value), BindsTo s fd ⟨[u], []⟩ [(x, u)]) ∧
        ∀ base : Heap, (K w.params).In base → base.Ns mainGlobals mg → FnOk l.prog w (K w.params) mg base CX k fa fd [x] (sp (K w.params)))
    (hsp : ∀ (K : PySem.W.Frag) (H : Hp) (a : Addr) (ns : List Int), ns.length ≤ n → Only H → SqL K H a (ns.map V.int) → sp K [.ref a] H (fun v _ => v = .bl true) fun _ _ _ => False)
    (hCX : ∀ (H : Hp) (s : Shared) (e : Value) (s' : Shared), CX [] H s (fun _ _ _ => False) e s' → False) :
    PySem.W.WalkO q loose XP YP l.row.toRowW d [] (fun f vs => PySem.call f vs) :=
  walk_of (K := K) (CX := fun _ => CX) (sp := fun w => sp (K w.params)) hn hn2 hdf hr hY F (fun w H a ns h1 h2 h3 => hsp (K w.params) H a ns h1 h2 h3) fun _ H s e s' => hCX H s e s'
end L2
namespace L2
open PySem PySem.Spec PyProof.Rows
def defArgs (s : Stmt) : Arguments := match s with
  | .FunctionDef _ a _ _ _ _ _ _ _ _ => a
  | _ => { posonlyargs := [], args := [], vararg := none, kwonlyargs := [], kw_defaults := [], kwarg := none, defaults := [] }
def defBody (s : Stmt) : List Stmt := match s with
  | .FunctionDef _ _ b _ _ _ _ _ _ _ => b
  | _ => []
def defScope (s : Stmt) : Scope := match s with
  | .FunctionDef _ _ _ _ _ _ sc _ _ _ => sc
  | _ => { kind := .function, names := [], isGenerator := false, isCoroutine := false }
abbrev CX0 : CXT := fun _ _ _ _ _ _ => False
abbrev E0 : XK := fun _ _ _ => False
theorem pass0 {X : Cx} : Passes CX0 X E0 := fun _ _ _ _ _ _ _ h => h.elim
structure Fun (K : PySem.W.Frag) (x qual : Str) (st : Stmt) (f : Addr) (fd : FuncData) : Prop where
  ex : ∃ (oc : Value) (od : Option Addr) (kV doc pm : Value) (an : Option Addr) (cdv ct : Value) (osl : Array (Option Value)),
    fd = PySem.W.fnOf x qual (defArgs st) (defBody st) (defScope st) .none kV doc pm an cdv ct ∧ K.lookup f = some ⟨oc, od, .func fd, osl⟩ ∧ PySem.W.codeIn K cdv qual = true
  kp : PySem.W.keepIn K (.ref f) = true
section
variable {P : Program} {w : World} {K : PySem.W.Frag} {mg : Str → Option Value} {base : Heap}
theorem Fun.ok {x qual : Str} {st : Stmt} {f : Addr} {fd : FuncData} {N ps : List Str} {k : Nat} {sp : Sp} (F : Fun K x qual st f fd) (S : FnScope N ps (defScope st)) (len : ∀ vs H Q E, sp vs H Q E → vs.length = ps.length)
    (hbody : ∀ (cdv : Value) (A : Around) (outer : List Env) (s : Shared) (H : Hp) (vs : List V) (Q : VK) (E : XK), Room k (A.deeper (envOfC qual (defScope st) s.heap.objs.size f cdv)) → sp vs H Q E →
      ∃ t, PSs (cxOf CX0 P w K mg base N qual (defScope st) f cdv A outer s H E).nox (defBody st) t ∧ t { nx := fun _ H' => Q .non H', rt := Q } (start N vs) H) : FnOk P w K mg base CX0 (k + 1) f fd ps sp := by
  obtain ⟨oc, od, kV, doc, pm, an, cdv, ct, osl, rfl, lk, hcd⟩ := F.ex
  refine fn_of lk hcd S len fun A outer s H vs Q E hr hsp => ?_
  obtain ⟨t, h, q⟩ := hbody cdv A outer s H vs Q E hr hsp
  exact ⟨t, h.nox, q⟩
theorem Fun.binds {x qual : Str} {st : Stmt} {f : Addr} {fd : FuncData} {ps : List Str} (F : Fun K x qual st f fd)
    (h : ∀ (kV doc pm : Value) (an : Option Addr) (cdv ct : Value) (us : List Value), us.length = ps.length → bindArgs (PySem.W.fnOf x qual (defArgs st) (defBody st) (defScope st) .none kV doc pm an cdv ct) ⟨us, []⟩ = pure (ps.zip us)) : Binds K fd ps [] := by
  obtain ⟨oc, od, kV, doc, pm, an, cdv, ct, osl, rfl, lk, hcd⟩ := F.ex
  exact .all (h kV doc pm an cdv ct)
theorem fun_mk {x qual : Str} {st : Stmt} {f : Addr} {oc : Value} {od an : Option Addr} {osl : Array (Option Value)} {kV doc pm cdv ct : Value} (l : K.lookup f = some ⟨oc, od, .func (PySem.W.fnOf x qual (defArgs st) (defBody st) (defScope st) .none kV doc pm an cdv ct), osl⟩)
    (c : PySem.W.codeIn K cdv qual = true) (k : PySem.W.keepIn K (.ref f) = true) : Fun K x qual st f (PySem.W.fnOf x qual (defArgs st) (defBody st) (defScope st) .none kV doc pm an cdv ct) := ⟨⟨oc, od, kV, doc, pm, an, cdv, ct, osl, rfl, l, c⟩, k⟩
end
theorem small1000 {n : Nat} (h : n ≤ 1000) : n < sizeLine := Nat.lt_of_le_of_lt h (by decide)
section
variable {X : Cx}
theorem pv (i : Nat) {x : Str} {pos : Pos} (hN : X.N[i]? = some x := by rfl) (hv : Vis X.env.scope x := by first | exact Or.inl rfl | exact Or.inr (Or.inl rfl) | exact Or.inr (Or.inr rfl)) (hd : (x == ("__debug__" : Str)) = false := by decide)
    (hcd : (x == ("__classdict__" : Str)) = false := by decide) : PE X (.Name x pos) (tVar i) := pe_var hN hv hd hcd
end
theorem iteF {A B : Prop} (h : B) : if false = true then A else B := by
  rw [if_neg Bool.false_ne_true]
  exact h
theorem iteT {A B : Prop} (h : A) : if true = true then A else B := by
  rw [if_pos rfl]
  exact h
def Same (H H' : Hp) : Prop := ∀ b o, H b = some o → H' b = some o
theorem Same.trans {H H1 H2 : Hp} (a : Same H H1) (b : Same H1 H2) : Same H H2 := fun c o h => b c o (a c o h)
theorem Same.free {H H' : Hp} (e : Same H H') {l : Addr} (h : H' l = Option.none) : H l = Option.none := by
  cases q : H l with
  | none => rfl
  | some o =>
    rw [e l o q] at h
    cases h
theorem Same.seq {K : PySem.W.Frag} {H H' : Hp} {a : Addr} {xs : List V} (e : Same H H') (h : SqL K H a xs) : SqL K H' a xs := by
  rcases h with (h | ⟨o, h⟩) | h
  · exact .inl (.inl (e _ _ h))
  · exact .inl (.inr ⟨o, e _ _ h⟩)
  · exact .inr h
end L2
namespace L2
open PySem PySem.Spec PyProof.Rows
section
variable {κ : Type} [DecidableEq κ]
end
end L2
set_option Elab.async false
set_option linter.all false
set_option maxRecDepth 100000
set_option maxHeartbeats 4000000
namespace FL
open PySem PySem.Spec PyProof.Rows L2
abbrev St := L2.St
inductive D where
  | non
  | bl (b : Bool)
  | int (i : Int)
  | str (x : Str)
  | tup (ds : List D)
  | lst (ds : List D)
  deriving Inhabited
mutual
def Has (K : PySem.W.Frag) (H : Hp) : D → V → Prop
  | .non, v => v = .non
  | .bl b, v => v = .bl b
  | .int i, v => v = .int i
  | .str x, v => v = .str x
  | .tup ds, v => ∃ a xs, v = .ref a ∧ SqT K H a xs ∧ HasL K H ds xs
  | .lst ds, v => ∃ a xs, v = .ref a ∧ SqL K H a xs ∧ HasL K H ds xs
def HasL (K : PySem.W.Frag) (H : Hp) : List D → List V → Prop
  | [], xs => xs = []
  | d :: ds, xs => ∃ x r, xs = x :: r ∧ Has K H d x ∧ HasL K H ds r
end
theorem sameR {H : Hp} : Same H H := fun _ _ e => e
theorem sameT {K : PySem.W.Frag} {H H' : Hp} {a : Addr} {xs : List V} (e : Same H H') (h : SqT K H a xs) : SqT K H' a xs := by
  rcases h with (h | ⟨o, h⟩) | h
  · exact .inl (.inl (e _ _ h))
  · exact .inl (.inr ⟨o, e _ _ h⟩)
  · exact .inr h
section
variable {K : PySem.W.Frag} {H H' : Hp}
mutual
theorem Has.mono (s : Same H H') : ∀ {d : D} {v : V}, Has K H d v → Has K H' d v
  | .non, _, h => by unfold Has at h ⊢; exact h
  | .bl _, _, h => by unfold Has at h ⊢; exact h
  | .int _, _, h => by unfold Has at h ⊢; exact h
  | .str _, _, h => by unfold Has at h ⊢; exact h
  | .tup ds, v, h => by
    unfold Has at h ⊢
    obtain ⟨a, xs, e, q, l⟩ := h
    exact ⟨a, xs, e, sameT s q, HasL.mono s l⟩
  | .lst ds, v, h => by
    unfold Has at h ⊢
    obtain ⟨a, xs, e, q, l⟩ := h
    exact ⟨a, xs, e, s.seq q, HasL.mono s l⟩
theorem HasL.mono (s : Same H H') : ∀ {ds : List D} {xs : List V}, HasL K H ds xs → HasL K H' ds xs
  | [], _, h => by unfold HasL at h ⊢; exact h
  | d :: ds, xs, h => by
    unfold HasL at h ⊢
    obtain ⟨x, r, e, h1, h2⟩ := h
    exact ⟨x, r, e, Has.mono s h1, HasL.mono s h2⟩
end
theorem Has.non_iff {v : V} : Has K H .non v ↔ v = .non := by unfold Has; rfl
theorem Has.bl_iff {b : Bool} {v : V} : Has K H (.bl b) v ↔ v = .bl b := by unfold Has; rfl
theorem Has.int_iff {i : Int} {v : V} : Has K H (.int i) v ↔ v = .int i := by unfold Has; rfl
theorem Has.str_iff {x : Str} {v : V} : Has K H (.str x) v ↔ v = .str x := by unfold Has; rfl
theorem Has.tup_iff {ds : List D} {v : V} : Has K H (.tup ds) v ↔ ∃ a xs, v = .ref a ∧ SqT K H a xs ∧ HasL K H ds xs := by
  constructor
  · intro h; unfold Has at h; exact h
  · intro h; unfold Has; exact h
theorem Has.lst_iff {ds : List D} {v : V} : Has K H (.lst ds) v ↔ ∃ a xs, v = .ref a ∧ SqL K H a xs ∧ HasL K H ds xs := by
  constructor
  · intro h; unfold Has at h; exact h
  · intro h; unfold Has; exact h
theorem HasL.nil_iff {xs : List V} : HasL K H [] xs ↔ xs = [] := by unfold HasL; rfl
theorem HasL.cons_iff {d : D} {ds : List D} {xs : List V} : HasL K H (d :: ds) xs ↔ ∃ x r, xs = x :: r ∧ Has K H d x ∧ HasL K H ds r := by
  constructor
  · intro h; unfold HasL at h; exact h
  · intro h; unfold HasL; exact h
theorem HasL.nil : HasL K H [] [] := HasL.nil_iff.mpr rfl
theorem HasL.cons {d : D} {ds : List D} {x : V} {xs : List V} (h : Has K H d x) (t : HasL K H ds xs) : HasL K H (d :: ds) (x :: xs) := HasL.cons_iff.mpr ⟨x, xs, rfl, h, t⟩
theorem HasL.length : ∀ {ds : List D} {xs : List V}, HasL K H ds xs → xs.length = ds.length
  | [], _, h => by rw [HasL.nil_iff] at h; subst h; rfl
  | d :: ds, xs, h => by
    obtain ⟨x, r, e, _, h2⟩ := HasL.cons_iff.mp h
    subst e
    simp [HasL.length h2]
theorem HasL.get : ∀ {ds : List D} {xs : List V} {i : Nat} {d : D}, HasL K H ds xs → ds[i]? = some d → ∃ v, xs[i]? = some v ∧ Has K H d v
  | [], _, _, _, _, e => by simp at e
  | d :: ds, xs, i, d', h, e => by
    obtain ⟨x, r, e', h1, h2⟩ := HasL.cons_iff.mp h
    subst e'
    cases i with
    | zero => simp at e; subst e; exact ⟨x, rfl, h1⟩
    | succ i =>
      obtain ⟨v, q1, q2⟩ := HasL.get (i := i) (d := d') h2 (by simpa using e)
      exact ⟨v, by simpa using q1, q2⟩
theorem HasL.append : ∀ {ds es : List D} {xs ys : List V}, HasL K H ds xs → HasL K H es ys → HasL K H (ds ++ es) (xs ++ ys)
  | [], _, _, _, h, h' => by rw [HasL.nil_iff] at h; subst h; exact h'
  | d :: ds, es, xs, ys, h, h' => by
    obtain ⟨x, r, e, h1, h2⟩ := HasL.cons_iff.mp h
    subst e
    exact .cons h1 (HasL.append h2 h')
theorem HasL.drop : ∀ {ds : List D} {xs : List V} (n : Nat), HasL K H ds xs → HasL K H (ds.drop n) (xs.drop n)
  | _, _, 0, h => by simpa using h
  | [], _, n + 1, h => by rw [HasL.nil_iff] at h; subst h; simpa using HasL.nil
  | d :: ds, xs, n + 1, h => by
    obtain ⟨x, r, e, h1, h2⟩ := HasL.cons_iff.mp h
    subst e
    exact HasL.drop n h2
theorem HasL.take : ∀ {ds : List D} {xs : List V} (n : Nat), HasL K H ds xs → HasL K H (ds.take n) (xs.take n)
  | _, _, 0, h => by simpa using HasL.nil
  | [], _, n + 1, h => by rw [HasL.nil_iff] at h; subst h; simpa using HasL.nil
  | d :: ds, xs, n + 1, h => by
    obtain ⟨x, r, e, h1, h2⟩ := HasL.cons_iff.mp h
    subst e
    exact .cons h1 (HasL.take n h2)
theorem HasL.set {d : D} {x : V} (hx : Has K H d x) : ∀ {ds : List D} {xs : List V} (i : Nat), HasL K H ds xs → HasL K H (ds.set i d) (xs.set i x)
  | [], _, _, h => by rw [HasL.nil_iff] at h; subst h; exact HasL.nil
  | e :: ds, xs, i, h => by
    obtain ⟨y, r, e, h1, h2⟩ := HasL.cons_iff.mp h
    subst e
    cases i with
    | zero => exact .cons hx h2
    | succ i => exact .cons h1 (HasL.set hx i h2)
theorem HasL.ints : ∀ (ns : List Int), HasL K H (ns.map D.int) (ns.map V.int)
  | [] => .nil
  | n :: ns => .cons (Has.int_iff.mpr rfl) (HasL.ints ns)
end
inductive Slot where
  | no
  | fr (d : D)
  | ol (ds : List D)
  | oT (kvs : List (List Key × D))
  | oK (kvs : List (Key × D))
  deriving Inhabited
def Slot.own : Slot → Bool
  | .ol _ => true
  | .oT _ => true
  | .oK _ => true
  | _ => false
abbrev Rho := List Slot
def KVs (K : PySem.W.Frag) (H : Hp) {κ : Type} : List (κ × D) → List (κ × V) → Prop := Paired fun p q => p.1 = q.1 ∧ Has K H p.2 q.2
theorem KVs.mono {K : PySem.W.Frag} {H H' : Hp} {κ : Type} (s : Same H H') {l : List (κ × D)} {m : List (κ × V)} (h : KVs K H l m) : KVs K H' l m := Paired.mapP h fun _ _ z => ⟨z.1, Has.mono s z.2⟩
def OwnOk (K : PySem.W.Frag) (H Hf : Hp) (a : Addr) : Slot → Prop
  | .ol ds => ∃ xs, H a = some (.lst xs) ∧ HasL K Hf ds xs
  | .oT kvs => ∃ ws, H a = some (.dT ws) ∧ KVs K Hf kvs ws
  | .oK kvs => ∃ ws, H a = some (.dK ws) ∧ KVs K Hf kvs ws
  | _ => True
theorem OwnOk.mono {K : PySem.W.Frag} {H Hf H' Hf' : Hp} {a : Addr} {sl : Slot} (h : OwnOk K H Hf a sl) (k : ∀ o, H a = some o → H' a = some o) (s : Same Hf Hf') : OwnOk K H' Hf' a sl := by
  cases sl with
  | no => trivial
  | fr d => trivial
  | ol ds => obtain ⟨xs, e, q⟩ := h; exact ⟨xs, k _ e, q.mono s⟩
  | oT kvs => obtain ⟨xs, e, q⟩ := h; exact ⟨xs, k _ e, KVs.mono s q⟩
  | oK kvs => obtain ⟨xs, e, q⟩ := h; exact ⟨xs, k _ e, KVs.mono s q⟩
theorem OwnOk.there {K : PySem.W.Frag} {H Hf : Hp} {a : Addr} {sl : Slot} (h : OwnOk K H Hf a sl) (ow : sl.own = true) : ∃ o, H a = some o := by
  cases sl with
  | no => cases ow
  | fr d => cases ow
  | ol ds => obtain ⟨xs, e, q⟩ := h; exact ⟨_, e⟩
  | oT kvs => obtain ⟨xs, e, q⟩ := h; exact ⟨_, e⟩
  | oK kvs => obtain ⟨xs, e, q⟩ := h; exact ⟨_, e⟩
def Tp (o : HO) : Prop := ∃ ks : List Key, o = .tup (ks.map kV)
structure Rep (K : PySem.W.Frag) (H₀ Hf₀ : Hp) (σ : St) (ρ : Rho) (H Hf : Hp) : Prop where
  s0 : Same H₀ H
  sf : Same Hf H
  nf : ∀ b o, Hf b = some o → Hf₀ b = some o ∨ H₀ b = none ∨ Tp o
  f0 : Same Hf₀ Hf
  len : ρ.length = σ.length
  fr : ∀ (i : Nat) (d : D), ρ[i]? = some (.fr d) → ∃ v, σ[i]? = some (some v) ∧ Has K Hf d v
  ow : ∀ (i : Nat) (sl : Slot), ρ[i]? = some sl → sl.own = true → ∃ a, σ[i]? = some (some (.ref a)) ∧ OwnOk K H Hf a sl ∧ Hf a = none ∧ H₀ a = none
  inj : ∀ (i j : Nat) (sl sl' : Slot) (a : Addr), ρ[i]? = some sl → sl.own = true → ρ[j]? = some sl' → sl'.own = true → σ[i]? = some (some (.ref a)) → σ[j]? = some (some (.ref a)) → i = j
theorem OwnOk.notTp {K : PySem.W.Frag} {H Hf H' : Hp} {a : Addr} {sl : Slot} {u : HO} (h : OwnOk K H Hf a sl) (ow : sl.own = true) (k : ∀ o, H a = some o → H' a = some o) (z : H' a = some u) (t : Tp u) : False := by
  obtain ⟨ks, rfl⟩ := t
  cases sl with
  | no => cases ow
  | fr d => cases ow
  | ol ds => obtain ⟨xs, e, q⟩ := h; have := (k _ e).symm.trans z; cases this
  | oT kvs => obtain ⟨xs, e, q⟩ := h; have := (k _ e).symm.trans z; cases this
  | oK kvs => obtain ⟨xs, e, q⟩ := h; have := (k _ e).symm.trans z; cases this
section
variable {K : PySem.W.Frag} {H₀ Hf₀ : Hp} {σ : St} {ρ : Rho} {H Hf H' Hf' : Hp}
theorem Rep.grow (R : Rep K H₀ Hf₀ σ ρ H Hf) (h1 : Same H H') (h2 : Same Hf Hf') (h3 : Same Hf' H') (h4 : ∀ b o, Hf' b = some o → Hf b = some o ∨ H b = none ∨ Tp o) : Rep K H₀ Hf₀ σ ρ H' Hf' where
  s0 := R.s0.trans h1
  sf := h3
  nf := fun b o e => by
    rcases h4 b o e with q | q | q
    · exact R.nf b o q
    · exact .inr (.inl (R.s0.free q))
    · exact .inr (.inr q)
  f0 := R.f0.trans h2
  len := R.len
  fr := fun i d e => by
    obtain ⟨v, q1, q2⟩ := R.fr i d e
    exact ⟨v, q1, q2.mono h2⟩
  ow := fun i sl e o => by
    obtain ⟨a, q1, q2, q3, q4⟩ := R.ow i sl e o
    refine ⟨a, q1, q2.mono (fun o e => h1 _ _ e) h2, ?_, q4⟩
    obtain ⟨ob, qo⟩ := q2.there o
    cases z : Hf' a with
    | none => rfl
    | some u =>
      rcases h4 a u z with y | y | y
      · rw [q3] at y; cases y
      · rw [qo] at y; cases y
      · exact (q2.notTp o (fun o => h1 a o) (h3 _ _ z) y).elim
  inj := R.inj
theorem Rep.lay (R : Rep K H₀ Hf₀ σ ρ H Hf) {p : Addr} {o : HO} (hp : H p = none) : Rep K H₀ Hf₀ σ ρ (upd H p o) (upd Hf p o) := by
  have hfp : Hf p = none := R.sf.free hp
  refine R.grow (fun b u e => ?_) (fun b u e => ?_) (fun b u e => ?_) (fun b u e => ?_)
  · rw [upd_ne (ne_of_none e hp)]; exact e
  · rw [upd_ne (ne_of_none e hfp)]; exact e
  · by_cases hb : b = p
    · subst hb; rw [upd_same] at e ⊢; exact e
    · rw [upd_ne hb] at e ⊢; exact R.sf b u e
  · by_cases hb : b = p
    · subst hb; exact .inr (.inl hp)
    · rw [upd_ne hb] at e; exact .inl e
theorem Rep.layN (R : Rep K H₀ Hf₀ σ ρ H Hf) {p : Addr} {o : HO} (hp : H p = none) : Rep K H₀ Hf₀ σ ρ (upd H p o) Hf := by
  refine R.grow (fun b u e => ?_) sameR (fun b u e => ?_) (fun b u e => .inl e)
  · rw [upd_ne (ne_of_none e hp)]; exact e
  · rw [upd_ne (ne_of_none (R.sf b u e) hp)]; exact R.sf b u e
theorem same_upd {p : Addr} {o : HO} (hp : H p = none) : Same H (upd H p o) := fun b u e => by rw [upd_ne (ne_of_none e hp)]; exact e
theorem Rep.set (R : Rep K H₀ Hf₀ σ ρ H Hf) {d : D} {v : V} (i : Nat) (h : Has K Hf d v) : Rep K H₀ Hf₀ (σ.set i (some v)) (ρ.set i (.fr d)) H Hf where
  s0 := R.s0
  sf := R.sf
  nf := R.nf
  f0 := R.f0
  len := by simp [R.len]
  fr := fun j d' e => by
    rw [List.getElem?_set] at e ⊢
    by_cases hj : i = j
    · rw [if_pos hj] at e ⊢
      split at e
      · cases e
        rename_i hl
        rw [R.len] at hl
        rw [if_pos hl]
        exact ⟨v, rfl, h⟩
      · cases e
    · rw [if_neg hj] at e ⊢
      exact R.fr j d' e
  ow := fun j sl e o => by
    rw [List.getElem?_set] at e ⊢
    by_cases hj : i = j
    · rw [if_pos hj] at e
      split at e
      · cases e; cases o
      · cases e
    · rw [if_neg hj] at e ⊢
      exact R.ow j sl e o
  inj := fun j k sl sl' a e o e' o' z z' => by
    rw [List.getElem?_set] at e e' z z'
    by_cases hj : i = j
    · rw [if_pos hj] at e
      split at e
      · cases e; cases o
      · cases e
    · by_cases hk : i = k
      · rw [if_pos hk] at e'
        split at e'
        · cases e'; cases o'
        · cases e'
      · rw [if_neg hj] at e z
        rw [if_neg hk] at e' z'
        exact R.inj j k sl sl' a e o e' o' z z'
theorem Rep.setOwn (R : Rep K H₀ Hf₀ σ ρ H Hf) {sl : Slot} {a : Addr} (i : Nat) (ho : sl.own = true) (h : OwnOk K H Hf a sl) (hf : Hf a = none) (h0 : H₀ a = none)
    (fresh : ∀ (j : Nat) (sl' : Slot), ρ[j]? = some sl' → sl'.own = true → σ[j]? ≠ some (some (.ref a))) : Rep K H₀ Hf₀ (σ.set i (some (.ref a))) (ρ.set i sl) H Hf where
  s0 := R.s0
  sf := R.sf
  nf := R.nf
  f0 := R.f0
  len := by simp [R.len]
  fr := fun j d' e => by
    rw [List.getElem?_set] at e ⊢
    by_cases hj : i = j
    · rw [if_pos hj] at e
      split at e
      · cases e; cases ho
      · cases e
    · rw [if_neg hj] at e ⊢
      exact R.fr j d' e
  ow := fun j sl' e o => by
    rw [List.getElem?_set] at e ⊢
    by_cases hj : i = j
    · rw [if_pos hj] at e ⊢
      split at e
      · cases e
        rename_i hl
        rw [R.len] at hl
        rw [if_pos hl]
        exact ⟨a, rfl, h, hf, h0⟩
      · cases e
    · rw [if_neg hj] at e ⊢
      exact R.ow j sl' e o
  inj := fun j k s1 s2 b e o e' o' z z' => by
    rw [List.getElem?_set] at e e' z z'
    by_cases hj : i = j
    · by_cases hk : i = k
      · omega
      · rw [if_pos hj] at z
        rw [if_neg hk] at e' z'
        split at z
        · cases z
          exact absurd z' (fresh k s2 e' o')
        · cases z
    · by_cases hk : i = k
      · rw [if_pos hk] at z'
        rw [if_neg hj] at e z
        split at z'
        · cases z'
          exact absurd z (fresh j s1 e o)
        · cases z'
      · rw [if_neg hj] at e z
        rw [if_neg hk] at e' z'
        exact R.inj j k s1 s2 b e o e' o' z z'
theorem Rep.updOwn (R : Rep K H₀ Hf₀ σ ρ H Hf) {sl sl' : Slot} {a : Addr} {o : HO} {i : Nat} (e : ρ[i]? = some sl) (ho : sl.own = true) (ea : σ[i]? = some (some (.ref a))) (ho' : sl'.own = true) (h : OwnOk K (upd H a o) Hf a sl') :
    Rep K H₀ Hf₀ σ (ρ.set i sl') (upd H a o) Hf := by
  obtain ⟨a', q1, q2, q3, q4⟩ := R.ow i sl e ho
  rw [ea] at q1; cases q1
  have hil : i < ρ.length := (List.getElem?_eq_some_iff.mp e).1
  refine ⟨fun b u z => ?_, fun b u z => ?_, R.nf, R.f0, by simp [R.len], fun j d z => ?_, fun j s1 z oz => ?_, fun j k s1 s2 b z oz z' oz' y y' => ?_⟩
  · rw [upd_ne (ne_of_none z q4)]; exact R.s0 b u z
  · rw [upd_ne (ne_of_none z q3)]; exact R.sf b u z
  · rw [List.getElem?_set] at z
    by_cases hj : i = j
    · rw [if_pos hj, if_pos hil] at z
      cases z; cases ho'
    · rw [if_neg hj] at z
      exact R.fr j d z
  · rw [List.getElem?_set] at z
    by_cases hj : i = j
    · rw [if_pos hj, if_pos hil] at z
      cases z
      subst hj
      exact ⟨a, ea, h, q3, q4⟩
    · rw [if_neg hj] at z
      obtain ⟨b, p1, p2, p3, p4⟩ := R.ow j s1 z oz
      refine ⟨b, p1, p2.mono (fun u q => ?_) sameR, p3, p4⟩
      rw [upd_ne]
      · exact q
      · rintro rfl
        exact hj (R.inj i j sl s1 b e ho z oz ea p1)
  · have own_at : ∀ (j : Nat) (s1 : Slot), (ρ.set i sl')[j]? = some s1 → s1.own = true → ∃ s2, ρ[j]? = some s2 ∧ s2.own = true := fun j s1 z oz => by
      rw [List.getElem?_set] at z
      by_cases hj : i = j
      · subst hj; exact ⟨sl, e, ho⟩
      · rw [if_neg hj] at z; exact ⟨s1, z, oz⟩
    obtain ⟨t1, u1, v1⟩ := own_at j s1 z oz
    obtain ⟨t2, u2, v2⟩ := own_at k s2 z' oz'
    exact R.inj j k t1 t2 b u1 v1 u2 v2 y y'
theorem Rep.freeze (R : Rep K H₀ Hf₀ σ ρ H Hf) {ds : List D} {i : Nat} (e : ρ[i]? = some (.ol ds)) : ∃ Hf', Same Hf Hf' ∧ Rep K H₀ Hf₀ σ (ρ.set i (.fr (.lst ds))) H Hf' := by
  obtain ⟨a, q1, ⟨xs, q2, q2'⟩, q3, q4⟩ := R.ow i _ e rfl
  have hil : i < ρ.length := (List.getElem?_eq_some_iff.mp e).1
  have sm : Same Hf (upd Hf a (.lst xs)) := same_upd q3
  refine ⟨upd Hf a (.lst xs), sm, R.s0, fun b u z => ?_, fun b u z => ?_, R.f0.trans sm, by simp [R.len], fun j d z => ?_, fun j s1 z oz => ?_, fun j k s1 s2 b z oz z' oz' y y' => ?_⟩
  · by_cases hb : b = a
    · subst hb; rw [upd_same] at z; cases z; exact q2
    · rw [upd_ne hb] at z; exact R.sf b u z
  · by_cases hb : b = a
    · subst hb; exact .inr (.inl q4)
    · rw [upd_ne hb] at z; exact R.nf b u z
  · rw [List.getElem?_set] at z
    by_cases hj : i = j
    · rw [if_pos hj, if_pos hil] at z
      cases z
      subst hj
      exact ⟨_, q1, Has.lst_iff.mpr ⟨a, xs, rfl, SqL.of upd_same, q2'.mono sm⟩⟩
    · rw [if_neg hj] at z
      obtain ⟨v, p1, p2⟩ := R.fr j d z
      exact ⟨v, p1, p2.mono sm⟩
  · rw [List.getElem?_set] at z
    by_cases hj : i = j
    · rw [if_pos hj, if_pos hil] at z
      cases z; cases oz
    · rw [if_neg hj] at z
      obtain ⟨b, p1, p2, p3, p4⟩ := R.ow j s1 z oz
      refine ⟨b, p1, p2.mono (fun u q => q) sm, ?_, p4⟩
      rw [upd_ne]
      · exact p3
      · rintro rfl
        exact hj (R.inj i j _ s1 b e rfl z oz q1 p1)
  · have own_at : ∀ (j : Nat) (s1 : Slot), (ρ.set i (.fr (.lst ds)))[j]? = some s1 → s1.own = true → ρ[j]? = some s1 := fun j s1 z oz => by
      rw [List.getElem?_set] at z
      by_cases hj : i = j
      · rw [if_pos hj, if_pos hil] at z
        cases z; cases oz
      · rw [if_neg hj] at z; exact z
    exact R.inj j k s1 s2 b (own_at j s1 z oz) oz (own_at k s2 z' oz') oz' y y'
end
end FL
set_option Elab.async false
set_option linter.all false
set_option maxRecDepth 100000
set_option maxHeartbeats 4000000
namespace FL
open PySem PySem.Spec PyProof.Rows L2
abbrev FE := Rho → Option D
abbrev FT := Rho → Option Bool
abbrev FA := Rho → Option (List D)
inductive Out where
  | nx (ρ : Rho)
  | rt (d : D)
  | bk (ρ : Rho)
  | ct (ρ : Rho)
abbrev FS := Rho → Option Out
def HasR (K : PySem.W.Frag) (Hf : Hp) (σ : St) (ρ : Rho) (d : D) (v : V) : Prop := Has K Hf d v ∨ ∃ (i : Nat) (ds : List D), d = .lst ds ∧ ρ[i]? = some (.ol ds) ∧ σ[i]? = some (some v)
theorem HasR.mono {K : PySem.W.Frag} {Hf Hf' : Hp} {σ : St} {ρ : Rho} {d : D} {v : V} (h : HasR K Hf σ ρ d v) (s : Same Hf Hf') : HasR K Hf' σ ρ d v := h.imp (Has.mono s) id
def tF (K : PySem.W.Frag) (f : FE) : TE := fun σ H Q => ∃ H₀ Hf₀ ρ Hf d, Rep K H₀ Hf₀ σ ρ H Hf ∧ f ρ = some d ∧
  ∀ v H' Hf', Rep K H₀ Hf₀ σ ρ H' Hf' → Same H H' → Same Hf Hf' → Has K Hf' d v → Q v H'
def tR (K : PySem.W.Frag) (f : FE) : TE := fun σ H Q => ∃ H₀ Hf₀ ρ Hf d, Rep K H₀ Hf₀ σ ρ H Hf ∧ f ρ = some d ∧
  ∀ v H' Hf', Rep K H₀ Hf₀ σ ρ H' Hf' → Same H H' → Same Hf Hf' → HasR K Hf' σ ρ d v → Q v H'
def tN (K : PySem.W.Frag) (f : FA) : TE := fun σ H Q => ∃ H₀ Hf₀ ρ Hf ds, Rep K H₀ Hf₀ σ ρ H Hf ∧ f ρ = some ds ∧
  ∀ a xs H' Hf', Rep K H₀ Hf₀ σ ρ H' Hf' → Same H H' → Same Hf Hf' → HasL K Hf' ds xs → H' a = some (.lst xs) → Hf' a = none → H a = none → Q (.ref a) H'
def tT (K : PySem.W.Frag) (f : FT) : TT := fun σ H Q => ∃ H₀ Hf₀ ρ Hf b, Rep K H₀ Hf₀ σ ρ H Hf ∧ f ρ = some b ∧
  ∀ H' Hf', Rep K H₀ Hf₀ σ ρ H' Hf' → Same H H' → Same Hf Hf' → Q b H'
def tAF (K : PySem.W.Frag) (f : FA) : TA := fun σ H Q => ∃ H₀ Hf₀ ρ Hf ds, Rep K H₀ Hf₀ σ ρ H Hf ∧ f ρ = some ds ∧
  ∀ vs H' Hf', Rep K H₀ Hf₀ σ ρ H' Hf' → Same H H' → Same Hf Hf' → HasL K Hf' ds vs → Q vs H'
def HasRL (K : PySem.W.Frag) (Hf : Hp) (σ : St) (ρ : Rho) : List D → List V → Prop := Paired (HasR K Hf σ ρ)
def tAR (K : PySem.W.Frag) (f : FA) : TA := fun σ H Q => ∃ H₀ Hf₀ ρ Hf ds, Rep K H₀ Hf₀ σ ρ H Hf ∧ f ρ = some ds ∧
  ∀ vs H' Hf', Rep K H₀ Hf₀ σ ρ H' Hf' → Same H H' → Same Hf Hf' → HasRL K Hf' σ ρ ds vs → Q vs H'
def EndO (K : PySem.W.Frag) (H₀ Hf₀ Hf : Hp) (D' : Ends) : Out → Prop
  | .nx ρ' => ∀ σ' H' Hf', Rep K H₀ Hf₀ σ' ρ' H' Hf' → Same Hf Hf' → D'.nx σ' H'
  | .bk ρ' => ∀ σ' H' Hf', Rep K H₀ Hf₀ σ' ρ' H' Hf' → Same Hf Hf' → D'.bk σ' H'
  | .ct ρ' => ∀ σ' H' Hf', Rep K H₀ Hf₀ σ' ρ' H' Hf' → Same Hf Hf' → D'.ct σ' H'
  | .rt d => ∀ v σ' ρ' H' Hf', Rep K H₀ Hf₀ σ' ρ' H' Hf' → Same Hf Hf' → Has K Hf' d v → D'.rt v H'
def tS (K : PySem.W.Frag) (F : FS) : TS := fun D' σ H => ∃ H₀ Hf₀ ρ Hf o, Rep K H₀ Hf₀ σ ρ H Hf ∧ F ρ = some o ∧ EndO K H₀ Hf₀ Hf D' o
def DE (X : Cx) (e : Expr) (f : FE) : Prop := PE X e (tF X.K f)
def DR (X : Cx) (e : Expr) (f : FE) : Prop := PE X e (tR X.K f)
def DN (X : Cx) (e : Expr) (f : FA) : Prop := PE X e (tN X.K f)
def DT (X : Cx) (e : Expr) (f : FT) : Prop := PT X e (tT X.K f)
def DW (X : Cx) (e : Expr) (f : FT) : Prop := PW X e (tT X.K f)
def DA (X : Cx) (es : List Expr) (f : FA) : Prop := PA X es (tAF X.K f)
def DAR (X : Cx) (es : List Expr) (f : FA) : Prop := PA X es (tAR X.K f)
def DS (X : Cx) (st : Stmt) (F : FS) : Prop := PS X st (tS X.K F)
def DSs (X : Cx) (sts : List Stmt) (F : FS) : Prop := PSs X sts (tS X.K F)
section
variable {X : Cx} {e a b c : Expr} {es : List Expr} {f g h : FE} {fa ga : FA} {ft gt : FT} {pos : Pos} {t t' : TE}
theorem pe_imp (h : PE X e t) (i : ∀ σ H Q, t' σ H Q → t σ H Q) : PE X e t' := fun pins s σ H Q I hw => h pins s σ H Q I (i _ _ _ hw)
theorem pt_imp {t t' : TT} (h : PT X e t) (i : ∀ σ H Q, t' σ H Q → t σ H Q) : PT X e t' := fun pins s σ H Q I hw => h pins s σ H Q I (i _ _ _ hw)
theorem pw_imp {t t' : TT} (h : PW X e t) (i : ∀ σ H Q, t' σ H Q → t σ H Q) : PW X e t' := fun wh pins s σ H Q I hw => h wh pins s σ H Q I (i _ _ _ hw)
theorem pa_imp {t t' : TA} (h : PA X es t) (i : ∀ σ H Q, t' σ H Q → t σ H Q) : PA X es t' := fun p pins s σ H Q I hw => h p pins s σ H Q I (i _ _ _ hw)
theorem ps_imp {st : Stmt} {t t' : TS} (h : PS X st t) (i : ∀ D σ H, t' D σ H → t D σ H) : PS X st t' := fun pins s σ H D I hw => h pins s σ H D I (i _ _ _ hw)
theorem pss_imp {sts : List Stmt} {t t' : TS} (h : PSs X sts t) (i : ∀ D σ H, t' D σ H → t D σ H) : PSs X sts t' := fun pins s σ H D I hw => h pins s σ H D I (i _ _ _ hw)
theorem DE.dr (he : DE X e f) : DR X e f := pe_imp he fun σ H Q ⟨H₀, Hf₀, ρ, Hf, d, R, q, k⟩ => ⟨H₀, Hf₀, ρ, Hf, d, R, q, fun v H' Hf' R' s1 s2 hv => k v H' Hf' R' s1 s2 (.inl hv)⟩
def mapLst (fa : FA) : FE := fun ρ => (fa ρ).map D.lst
theorem DN.de (he : DN X e fa) : DE X e (mapLst fa) := pe_imp he fun σ H Q ⟨H₀, Hf₀, ρ, Hf, d, R, q, k⟩ => by
  unfold mapLst at q
  cases hq : fa ρ with
  | none => rw [hq] at q; cases q
  | some ds =>
    rw [hq] at q; cases q
    refine ⟨H₀, Hf₀, ρ, Hf, ds, R, hq, fun a xs H' Hf' R' s1 s2 hl ha hn hh => ?_⟩
    have sm : Same Hf' (upd Hf' a (.lst xs)) := same_upd hn
    have h0 : H₀ a = none := R.s0.free hh
    refine k (.ref a) H' (upd Hf' a (.lst xs)) ?_ s1 (s2.trans sm) (Has.lst_iff.mpr ⟨a, xs, rfl, SqL.of upd_same, hl.mono sm⟩)
    refine ⟨R'.s0, fun b u z => ?_, fun b u z => ?_, R'.f0.trans sm, R'.len, fun i d z => ?_, fun i sl z o => ?_, R'.inj⟩
    · by_cases hb : b = a
      · subst hb; rw [upd_same] at z; cases z; exact ha
      · rw [upd_ne hb] at z; exact R'.sf b u z
    · by_cases hb : b = a
      · subst hb; exact .inr (.inl h0)
      · rw [upd_ne hb] at z; exact R'.nf b u z
    · obtain ⟨v, p1, p2⟩ := R'.fr i d z
      exact ⟨v, p1, p2.mono sm⟩
    · obtain ⟨b, p1, p2, p3, p4⟩ := R.ow i sl z o
      obtain ⟨b', r1, r2, r3, r4⟩ := R'.ow i sl z o
      rw [p1] at r1; cases r1
      refine ⟨b, p1, r2.mono (fun u q => q) sm, ?_, r4⟩
      rw [upd_ne]
      · exact r3
      · rintro rfl
        obtain ⟨o', q'⟩ := p2.there o
        rw [q'] at hh; cases hh
def vF (i : Nat) : FE := fun ρ => match ρ[i]? with
  | some (.fr d) => some d
  | _ => none
def vR (i : Nat) : FE := fun ρ => match ρ[i]? with
  | some (.fr d) => some d
  | some (.ol ds) => some (.lst ds)
  | _ => none
theorem dv (i : Nat) {x : Str} (hN : X.N[i]? = some x := by rfl) (hv : Vis X.env.scope x := by first | exact Or.inl rfl | exact Or.inr (Or.inl rfl) | exact Or.inr (Or.inr rfl)) (hd : (x == ("__debug__" : Str)) = false := by decide)
    (hcd : (x == ("__classdict__" : Str)) = false := by decide) : DE X (.Name x pos) (vF i) :=
  pe_imp (pe_var hN hv hd hcd) fun σ H Q ⟨H₀, Hf₀, ρ, Hf, d, R, q, k⟩ => by
    unfold vF at q
    split at q
    · cases q
      rename_i e
      obtain ⟨v, e1, e2⟩ := R.fr i d e
      exact ⟨v, e1, k v H Hf R sameR sameR e2⟩
    · cases q
theorem dvr (i : Nat) {x : Str} (hN : X.N[i]? = some x := by rfl) (hv : Vis X.env.scope x := by first | exact Or.inl rfl | exact Or.inr (Or.inl rfl) | exact Or.inr (Or.inr rfl)) (hd : (x == ("__debug__" : Str)) = false := by decide)
    (hcd : (x == ("__classdict__" : Str)) = false := by decide) : DR X (.Name x pos) (vR i) :=
  pe_imp (pe_var hN hv hd hcd) fun σ H Q ⟨H₀, Hf₀, ρ, Hf, d, R, q, k⟩ => by
    unfold vR at q
    split at q
    · cases q
      rename_i e
      obtain ⟨v, e1, e2⟩ := R.fr i d e
      exact ⟨v, e1, k v H Hf R sameR sameR (.inl e2)⟩
    · cases q
      rename_i ds e
      obtain ⟨a, e1, e2, _⟩ := R.ow i _ e rfl
      exact ⟨.ref a, e1, k _ H Hf R sameR sameR (.inr ⟨i, ds, rfl, e, e1⟩)⟩
    · cases q
def cF (d : D) : FE := fun _ => some d
theorem d_int {i : Int} {j pos} : DE X (.Constant (.int i) j pos) (cF (.int i)) := pe_imp pe_int fun σ H Q ⟨H₀, Hf₀, ρ, Hf, d, R, q, k⟩ => by cases q; exact k _ _ _ R sameR sameR (Has.int_iff.mpr rfl)
theorem d_bl {i : Bool} {j pos} : DE X (.Constant (.bool i) j pos) (cF (.bl i)) := pe_imp pe_bl fun σ H Q ⟨H₀, Hf₀, ρ, Hf, d, R, q, k⟩ => by cases q; exact k _ _ _ R sameR sameR (Has.bl_iff.mpr rfl)
theorem d_non {j pos} : DE X (.Constant .none j pos) (cF .non) := pe_imp pe_non fun σ H Q ⟨H₀, Hf₀, ρ, Hf, d, R, q, k⟩ => by cases q; exact k _ _ _ R sameR sameR (Has.non_iff.mpr rfl)
theorem d_str {x : Str} {j pos} : DE X (.Constant (.str x) j pos) (cF (.str x)) := pe_imp pe_str fun σ H Q ⟨H₀, Hf₀, ρ, Hf, d, R, q, k⟩ => by cases q; exact k _ _ _ R sameR sameR (Has.str_iff.mpr rfl)
def scalV : D → Option V
  | .non => some .non
  | .bl b => some (.bl b)
  | .int i => some (.int i)
  | .str x => some (.str x)
  | _ => none
theorem d_glob {x : Str} {d : D} {v : V} {u : Value} {pos : Pos} (hg : Gl X x) (hm : X.mg x = some u) (hs : scalV d = some v) (r : RelV v u) (hd : (x == ("__debug__" : Str)) = false := by decide) : DE X (.Name x pos) (cF d) :=
  pe_imp (pe_glob hg hm r hd) fun σ H Q ⟨H₀, Hf₀, ρ, Hf, d', R, q, k⟩ => by
    cases q
    refine k _ _ _ R sameR sameR ?_
    cases d <;> cases hs
    · exact Has.non_iff.mpr rfl
    · exact Has.bl_iff.mpr rfl
    · exact Has.int_iff.mpr rfl
    · exact Has.str_iff.mpr rfl
def bind2 (φ : D → D → Option D) (f g : FE) : FE := fun ρ => (f ρ).bind fun x => (g ρ).bind fun y => φ x y
def OpD (X : Cx) (r : R2) (φ : D → D → Option D) : Prop :=
  ∀ (σ : St) (ρ : Rho) (H₀ Hf₀ H Hf : Hp) (x y : V) (dx dy d : D) (Q : VK), Rep X.K H₀ Hf₀ σ ρ H Hf → HasR X.K Hf σ ρ dx x → HasR X.K Hf σ ρ dy y → φ dx dy = some d →
    (∀ v H' Hf', Rep X.K H₀ Hf₀ σ ρ H' Hf' → Same H H' → Same Hf Hf' → Has X.K Hf' d v → Q v H') → r x y H Q
theorem tOp_of {r : R2} {φ : D → D → Option D} (hφ : OpD X r φ) (σ : St) (H : Hp) (Q : VK) (hh : tF X.K (bind2 φ f g) σ H Q) : tOp r (tR X.K f) (tR X.K g) σ H Q := by
  obtain ⟨H₀, Hf₀, ρ, Hf, d, R, q, k⟩ := hh
  unfold bind2 at q
  cases hf : f ρ with
  | none => rw [hf] at q; cases q
  | some dx =>
    cases hg : g ρ with
    | none => rw [hf, hg] at q; cases q
    | some dy =>
      rw [hf, hg] at q
      refine ⟨H₀, Hf₀, ρ, Hf, dx, R, hf, fun v H1 Hf1 R1 s1 t1 h1 => ⟨H₀, Hf₀, ρ, Hf1, dy, R1, hg, fun u H2 Hf2 R2 s2 t2 h2 => ?_⟩⟩
      exact hφ σ ρ H₀ Hf₀ H2 Hf2 v u dx dy d Q R2 (h1.mono t2) h2 q fun w' H3 Hf3 R3 s3 t3 h3 => k w' H3 Hf3 R3 ((s1.trans s2).trans s3) ((t1.trans t2).trans t3) h3
theorem d_op {op : Operator} {r : R2} {φ : D → D → Option D} (ho : OpR X (binaryOp op) r) (hφ : OpD X r φ) (ha : DR X a f) (hb : DR X b g) : DE X (.BinOp a op b pos) (bind2 φ f g) :=
  pe_imp (pe_op ho ha hb) (tOp_of hφ)
theorem d_cmp {op : CmpOp} {r : R2} {φ : D → D → Option D} (ho : OpR X (compareOp op) r) (hφ : OpD X r φ) (ha : DR X a f) (hb : DR X b g) (hm : behindInMarks op b = false) : DE X (.Compare a [op] [b] pos) (bind2 φ f g) :=
  pe_imp (pe_cmpR ho ha hb hm) (tOp_of hφ)
theorem d_ix0 {r : R2} {φ : D → D → Option D} (ho : IxR X r) (hφ : OpD X r φ) (ha : DR X a f) (hb : DR X b g) (hs : PlainIx b) : DE X (.Subscript a b pos) (bind2 φ f g) :=
  pe_imp (pe_ix ho ha hb hs) (tOp_of hφ)
section
variable {K : PySem.W.Frag} {H₀ Hf₀ : Hp} {σ : St} {ρ : Rho} {H Hf : Hp} {v : V}
theorem HasR.int {i : Int} (h : HasR K Hf σ ρ (.int i) v) : v = .int i := by
  rcases h with h | ⟨_, _, e, _⟩
  · exact Has.int_iff.mp h
  · cases e
theorem HasR.bl {i : Bool} (h : HasR K Hf σ ρ (.bl i) v) : v = .bl i := by
  rcases h with h | ⟨_, _, e, _⟩
  · exact Has.bl_iff.mp h
  · cases e
theorem HasR.str {i : Str} (h : HasR K Hf σ ρ (.str i) v) : v = .str i := by
  rcases h with h | ⟨_, _, e, _⟩
  · exact Has.str_iff.mp h
  · cases e
theorem HasR.non (h : HasR K Hf σ ρ .non v) : v = .non := by
  rcases h with h | ⟨_, _, e, _⟩
  · exact Has.non_iff.mp h
  · cases e
theorem HasR.tup {ds : List D} (h : HasR K Hf σ ρ (.tup ds) v) (R : Rep K H₀ Hf₀ σ ρ H Hf) : ∃ a xs, v = .ref a ∧ SqT K H a xs ∧ HasL K Hf ds xs := by
  rcases h with h | ⟨_, _, e, _⟩
  · obtain ⟨a, xs, e, q, l⟩ := Has.tup_iff.mp h
    exact ⟨a, xs, e, sameT R.sf q, l⟩
  · cases e
theorem HasR.lst {ds : List D} (h : HasR K Hf σ ρ (.lst ds) v) (R : Rep K H₀ Hf₀ σ ρ H Hf) : ∃ a xs, v = .ref a ∧ SqL K H a xs ∧ HasL K Hf ds xs := by
  rcases h with h | ⟨i, ds', e, e1, e2⟩
  · obtain ⟨a, xs, e, q, l⟩ := Has.lst_iff.mp h
    exact ⟨a, xs, e, R.sf.seq q, l⟩
  · cases e
    obtain ⟨a, p1, ⟨xs, p2, p3⟩, _⟩ := R.ow i _ e1 rfl
    rw [e2] at p1; cases p1
    exact ⟨a, xs, rfl, SqL.of p2, p3⟩
end
def iiD (φ : Int → Int → Option D) : D → D → Option D
  | .int i, .int j => φ i j
  | _, _ => none
theorem iiD_some {φ : Int → Int → Option D} {x y d : D} (h : iiD φ x y = some d) : ∃ i j, x = .int i ∧ y = .int j ∧ φ i j = some d := by
  cases x <;> cases y <;> first | cases h | exact ⟨_, _, rfl, rfl, h⟩
theorem has_scal {K : PySem.W.Frag} {H : Hp} {d : D} {v : V} (h : scalV d = some v) : Has K H d v := by
  cases d <;> cases h
  · exact Has.non_iff.mpr rfl
  · exact Has.bl_iff.mpr rfl
  · exact Has.int_iff.mpr rfl
  · exact Has.str_iff.mpr rfl
theorem opD_ii {C : Int → Int → Prop} {gv : Int → Int → V} {φ : Int → Int → Option D} (h : ∀ i j d, φ i j = some d → C i j ∧ scalV d = some (gv i j)) : OpD X (rI C gv) (iiD φ) := by
  intro σ ρ H₀ Hf₀ H Hf x y dx dy d Q R hx hy hφ k
  obtain ⟨i, j, rfl, rfl, hd⟩ := iiD_some hφ
  obtain ⟨c, s⟩ := h i j d hd
  exact ⟨i, j, hx.int, hy.int, c, k _ _ _ R sameR sameR (has_scal s)⟩
theorem opD_ii0 {gv : Int → Int → V} {φ : Int → Int → Option D} (h : ∀ i j d, φ i j = some d → scalV d = some (gv i j)) : OpD X (rI0 gv) (iiD φ) := by
  intro σ ρ H₀ Hf₀ H Hf x y dx dy d Q R hx hy hφ k
  obtain ⟨i, j, rfl, rfl, hd⟩ := iiD_some hφ
  exact ⟨i, j, hx.int, hy.int, k _ _ _ R sameR sameR (has_scal (h i j d hd))⟩
end
end FL
set_option Elab.async false
set_option linter.all false
set_option maxRecDepth 100000
set_option maxHeartbeats 4000000
namespace FL
open PySem PySem.Spec PyProof.Rows L2
def big : Nat := 2 ^ 8000
theorem bits_big {i : Int} (h : i.natAbs < big) : Builtin.Int.intBits i ≤ 8001 := by
  unfold Builtin.Int.intBits
  split
  · exact Nat.zero_le _
  · have : i.natAbs.log2 < 8000 := by
      rcases Nat.eq_zero_or_pos i.natAbs with h0 | hp
      · rw [h0]; decide
      · exact (Nat.log2_lt (Nat.ne_of_gt hp)).mpr h
    omega
def MulB (i j : Int) : Prop := i.natAbs < 2 ^ 64 ∨ j.natAbs < 2 ^ 64 ∨ (i.natAbs < big ∧ j.natAbs < big)
instance (i j : Int) : Decidable (MulB i j) := by unfold MulB; exact inferInstance
theorem MulB.ok {i j : Int} (h : MulB i j) : IntMulOk i j := by
  rcases h with h | h | ⟨h1, h2⟩
  · exact .of_left (intBits_le_64 (by omega) (by omega))
  · exact .of_right (intBits_le_64 (by omega) (by omega))
  · exact IntMulOk.of_le (bits_big h1) (bits_big h2) (by decide)
def DivB (j : Int) : Prop := 0 < j ∧ j < 2 ^ 64
instance (j : Int) : Decidable (DivB j) := by unfold DivB; exact inferInstance
def PowB (i j : Int) : Prop := 0 ≤ j ∧ j ≤ 1000 ∧ i.natAbs < big
instance (i j : Int) : Decidable (PowB i j) := by unfold PowB; exact inferInstance
section
variable {X : Cx} {e a b c : Expr} {es : List Expr} {f g h : FE} {fa ga : FA} {ft gt : FT} {pos : Pos} {t t' : TE}
theorem op_mulG : OpR X (binaryOp .Mult) (rI MulB fun i j => .int (i * j)) := opI fun _ _ _ _ _ _ _ hc q => mul_int q hc.ok
theorem op_fdivG : OpR X (binaryOp .FloorDiv) (rI (fun _ j => DivB j) fun i j => .int (i / j)) := opI fun i j _ _ _ _ _ hc q => by
  have h1 : (0 : Int) < j := hc.1
  have h2 : j < 2 ^ 64 := hc.2
  refine floordiv_int (by omega) (by rw [Int.fdiv_eq_ediv_of_nonneg i (by omega)]; exact q) (.inl (PyProof.noPylong_of_log2 ?_))
  have hn : j.natAbs < 2 ^ 64 := by omega
  have : j.natAbs.log2 < 64 := (Nat.log2_lt (by omega)).mpr hn
  omega
theorem op_powG : OpR X (binaryOp .Pow) (rI PowB fun i j => .int (i ^ j.toNat)) := opI fun i j _ _ _ _ _ hc q => by
  obtain ⟨h1, h2, h3⟩ := hc
  refine pow_int h1 ?_ q
  have hb := bits_big h3
  have : (Builtin.Int.intBits i : Int) * j ≤ 8001 * 1000 := Int.mul_le_mul (by omega) h2 h1 (by decide)
  exact Int.le_trans this (by decide)
def mulD : D → D → Option D := iiD fun i j => if MulB i j then some (.int (i * j)) else none
def subD : D → D → Option D := iiD fun i j => some (.int (i - j))
def modD : D → D → Option D := iiD fun i j => if 0 < j then some (.int (i % j)) else none
def fdivD : D → D → Option D := iiD fun i j => if DivB j then some (.int (i / j)) else none
def powD : D → D → Option D := iiD fun i j => if PowB i j then some (.int (i ^ j.toNat)) else none
theorem opD_mul : OpD X (rI MulB fun i j => .int (i * j)) mulD := opD_ii fun i j d q => by
  split at q
  · cases q; exact ⟨by assumption, rfl⟩
  · cases q
theorem opD_sub : OpD X (rI0 fun i j => .int (i - j)) subD := opD_ii0 fun i j d q => by cases q; rfl
theorem opD_mod : OpD X (rI (fun _ j => 0 < j) fun i j => .int (i % j)) modD := opD_ii fun i j d q => by
  split at q
  · cases q; exact ⟨by assumption, rfl⟩
  · cases q
theorem opD_fdiv : OpD X (rI (fun _ j => DivB j) fun i j => .int (i / j)) fdivD := opD_ii fun i j d q => by
  split at q
  · cases q; exact ⟨by assumption, rfl⟩
  · cases q
theorem opD_pow : OpD X (rI PowB fun i j => .int (i ^ j.toNat)) powD := opD_ii fun i j d q => by
  split at q
  · cases q; exact ⟨by assumption, rfl⟩
  · cases q
theorem d_sub (ha : DR X a f) (hb : DR X b g) : DE X (.BinOp a .Sub b pos) (bind2 subD f g) := d_op op_sub opD_sub ha hb
theorem d_mul (ha : DR X a f) (hb : DR X b g) : DE X (.BinOp a .Mult b pos) (bind2 mulD f g) := d_op op_mulG opD_mul ha hb
theorem d_mod (ha : DR X a f) (hb : DR X b g) : DE X (.BinOp a .Mod b pos) (bind2 modD f g) := d_op op_mod opD_mod ha hb
theorem d_fdiv (ha : DR X a f) (hb : DR X b g) : DE X (.BinOp a .FloorDiv b pos) (bind2 fdivD f g) := d_op op_fdivG opD_fdiv ha hb
theorem d_pow (ha : DR X a f) (hb : DR X b g) : DE X (.BinOp a .Pow b pos) (bind2 powD f g) := d_op op_powG opD_pow ha hb
def addD : D → D → Option D
  | .int i, .int j => some (.int (i + j))
  | .str x, .str y => if x.length + y.length ≤ sizeLine then some (.str (x ++ y)) else none
  | .lst xs, .lst ys => if xs.length + ys.length ≤ sizeLine then some (.lst (xs ++ ys)) else none
  | .tup (x :: xs), .tup ys => if xs.length + 1 + ys.length ≤ sizeLine then some (.tup (x :: xs ++ ys)) else none
  | _, _ => none
def bind1 (φ : D → Option D) (f : FE) : FE := fun ρ => (f ρ).bind φ
def negD : D → Option D
  | .int i => some (.int (-i))
  | _ => none
theorem d_neg (ha : DR X a f) : DE X (.UnaryOp .USub a pos) (bind1 negD f) :=
  pe_imp (pe_un un_neg ha) fun σ H Q ⟨H₀, Hf₀, ρ, Hf, d, R, q, k⟩ => by
    unfold bind1 at q
    cases hf : f ρ with
    | none => rw [hf] at q; cases q
    | some x =>
      rw [hf] at q
      cases x <;> try cases q
      exact ⟨H₀, Hf₀, ρ, Hf, _, R, hf, fun v H1 Hf1 R1 s1 t1 h1 => ⟨_, h1.int, k _ _ _ R1 s1 t1 (Has.int_iff.mpr rfl)⟩⟩
def ltD : D → D → Option D := iiD fun i j => some (.bl (decide (i < j)))
def leD : D → D → Option D := iiD fun i j => some (.bl (decide (i ≤ j)))
def gtD : D → D → Option D := iiD fun i j => some (.bl (decide (j < i)))
def geD : D → D → Option D := iiD fun i j => some (.bl (decide (j ≤ i)))
theorem opD_lt : OpD X (rI0 fun i j => .bl (decide (i < j))) ltD := opD_ii0 fun i j d q => by cases q; rfl
theorem opD_le : OpD X (rI0 fun i j => .bl (decide (i ≤ j))) leD := opD_ii0 fun i j d q => by cases q; rfl
theorem opD_gt : OpD X (rI0 fun i j => .bl (decide (j < i))) gtD := opD_ii0 fun i j d q => by cases q; rfl
theorem opD_ge : OpD X (rI0 fun i j => .bl (decide (j ≤ i))) geD := opD_ii0 fun i j d q => by cases q; rfl
def isD (neg : Bool) : D → D → Option D := fun x y => match y with
  | .non => match x with
    | .non => some (.bl (!neg))
    | _ => some (.bl neg)
  | _ => none
theorem has_none {K : PySem.W.Frag} {Hf : Hp} {σ : St} {ρ : Rho} {x : D} {v : V} (h : HasR K Hf σ ρ x v) (R : ∃ H₀ Hf₀ H, Rep K H₀ Hf₀ σ ρ H Hf) : decide (v = V.non) = (match x with | .non => true | _ => false) := by
  obtain ⟨H₀, Hf₀, H, R⟩ := R
  cases x with
  | non => cases h.non; rfl
  | bl b => cases h.bl; rfl
  | int b => cases h.int; rfl
  | str b => cases h.str; rfl
  | tup ds => obtain ⟨a, xs, rfl, _⟩ := h.tup R; rfl
  | lst ds => obtain ⟨a, xs, rfl, _⟩ := h.lst R; rfl
theorem opD_is : OpD X (fun x y H Q => y = .non ∧ Q (.bl (decide (x = .non))) H) (isD false) := by
  intro σ ρ H₀ Hf₀ H Hf x y dx dy d Q R hx hy hφ k
  cases dy <;> try cases hφ
  have e := has_none hx ⟨_, _, _, R⟩
  refine ⟨hy.non, ?_⟩
  rw [e]
  cases dx <;> cases hφ <;> exact k _ _ _ R sameR sameR (Has.bl_iff.mpr rfl)
def ixD : D → D → Option D
  | .tup ds, .int i => atI ds i
  | .lst ds, .int i => atI ds i
  | .str z, .int i => if z.length ≤ sizeLine then (atI z.cps.toList i).map fun c => .str ⟨#[c]⟩ else none
  | _, _ => none
theorem HasL.atI {K : PySem.W.Frag} {H : Hp} {ds : List D} {xs : List V} {i : Int} {d : D} (h : HasL K H ds xs) (e : L2.atI ds i = some d) : ∃ v, L2.atI xs i = some v ∧ Has K H d v := by
  unfold L2.atI at e ⊢
  rw [h.length]
  cases hj : ixN ds.length i with
  | none => rw [hj] at e; cases e
  | some j =>
    rw [hj] at e
    exact h.get e
theorem opD_ix : OpD X (rIx X.K) ixD := by
  intro σ ρ H₀ Hf₀ H Hf x y dx dy d Q R hx hy hφ k
  unfold ixD at hφ
  split at hφ
  · obtain ⟨a, xs, rfl, qa, la⟩ := hx.tup R
    obtain ⟨v, e1, e2⟩ := la.atI hφ
    exact .inr (.inl ⟨a, xs, _, v, rfl, hy.int, qa, e1, k _ _ _ R sameR sameR e2⟩)
  · obtain ⟨a, xs, rfl, qa, la⟩ := hx.lst R
    obtain ⟨v, e1, e2⟩ := la.atI hφ
    exact .inl ⟨a, xs, _, v, rfl, hy.int, qa, e1, k _ _ _ R sameR sameR e2⟩
  · split at hφ
    · rename_i z i hz
      cases e : atI z.cps.toList i with
      | none => rw [e] at hφ; cases hφ
      | some c =>
        rw [e] at hφ
        cases hφ
        exact .inr (.inr ⟨z, i, c, hx.str, hy.int, hz, e, k _ _ _ R sameR sameR (Has.str_iff.mpr rfl)⟩)
    · cases hφ
  · cases hφ
theorem d_ix (ha : DR X a f) (hb : DR X b g) (hs : PlainIx b := by intro _ _; rfl) : DE X (.Subscript a b pos) (bind2 ixD f g) := d_ix0 ix_seq opD_ix ha hb hs
def nilA : FA := fun _ => some []
def consA (f : FE) (g : FA) : FA := fun ρ => (f ρ).bind fun x => (g ρ).bind fun xs => some (x :: xs)
theorem consA_some {f : FE} {g : FA} {ρ : Rho} {l : List D} (h : consA f g ρ = some l) : ∃ x xs, f ρ = some x ∧ g ρ = some xs ∧ l = x :: xs := by
  unfold consA at h
  cases hf : f ρ with
  | none => rw [hf] at h; cases h
  | some x =>
    cases hg : g ρ with
    | none => rw [hf, hg] at h; cases h
    | some xs => rw [hf, hg] at h; cases h; exact ⟨x, xs, rfl, rfl, rfl⟩
theorem da_nil : DA X [] nilA := pa_imp pa_nil fun σ H Q ⟨H₀, Hf₀, ρ, Hf, d, R, q, k⟩ => by cases q; exact k _ _ _ R sameR sameR .nil
theorem da_cons (ha : DE X e f) (hr : DA X es fa) (hs : starEach (e :: es) X.env = (false, eval e X.env) :: starEach es X.env := by rfl) : DA X (e :: es) (consA f fa) :=
  pa_imp (pa_cons ha hr hs) fun σ H Q ⟨H₀, Hf₀, ρ, Hf, d, R, q, k⟩ => by
    obtain ⟨x, xs, e1, e2, rfl⟩ := consA_some q
    exact ⟨H₀, Hf₀, ρ, Hf, x, R, e1, fun v H1 Hf1 R1 s1 t1 h1 => ⟨H₀, Hf₀, ρ, Hf1, xs, R1, e2, fun vs H2 Hf2 R2 s2 t2 h2 => k _ _ _ R2 (s1.trans s2) (t1.trans t2) (.cons (h1.mono t2) h2)⟩⟩
theorem dar_nil : DAR X [] nilA := pa_imp pa_nil fun σ H Q ⟨H₀, Hf₀, ρ, Hf, d, R, q, k⟩ => by cases q; exact k _ _ _ R sameR sameR .nil
theorem dar_cons (ha : DR X e f) (hr : DAR X es fa) (hs : starEach (e :: es) X.env = (false, eval e X.env) :: starEach es X.env := by rfl) : DAR X (e :: es) (consA f fa) :=
  pa_imp (pa_cons ha hr hs) fun σ H Q ⟨H₀, Hf₀, ρ, Hf, d, R, q, k⟩ => by
    obtain ⟨x, xs, e1, e2, rfl⟩ := consA_some q
    exact ⟨H₀, Hf₀, ρ, Hf, x, R, e1, fun v H1 Hf1 R1 s1 t1 h1 => ⟨H₀, Hf₀, ρ, Hf1, xs, R1, e2, fun vs H2 Hf2 R2 s2 t2 h2 => k _ _ _ R2 (s1.trans s2) (t1.trans t2) (.cons (h1.mono t2) h2)⟩⟩
def tupF (g : FA) : FE := fun ρ => (g ρ).bind fun xs => if xs.length ≤ sizeLine then some (.tup xs) else none
theorem d_tup {x1} (h : DA X es fa) : DE X (.Tuple es x1 pos) (tupF fa) :=
  pe_imp (pe_tup h) fun σ H Q ⟨H₀, Hf₀, ρ, Hf, d, R, q, k⟩ => by
    unfold tupF at q
    cases hg : fa ρ with
    | none => rw [hg] at q; cases q
    | some xs =>
      rw [hg] at q
      simp only [Option.bind_some] at q
      split at q
      · cases q
        rename_i hl
        refine ⟨H₀, Hf₀, ρ, Hf, xs, R, hg, fun vs H1 Hf1 R1 s1 t1 h1 => ⟨by rw [h1.length]; exact hl, fun p hp => ?_⟩⟩
        have sm := same_upd (o := .tup vs) (R1.sf.free hp)
        exact k _ _ _ (R1.lay hp) (s1.trans (same_upd hp)) (t1.trans sm) (Has.tup_iff.mpr ⟨p, vs, rfl, SqT.of upd_same, h1.mono sm⟩)
      · cases q
def lstF (g : FA) : FA := fun ρ => (g ρ).bind fun xs => if xs.length ≤ sizeLine then some xs else none
theorem dn_lst (h : DA X es fa) : DN X (.List es pos) (lstF fa) :=
  pe_imp (pe_lst h) fun σ H Q ⟨H₀, Hf₀, ρ, Hf, d, R, q, k⟩ => by
    unfold lstF at q
    cases hg : fa ρ with
    | none => rw [hg] at q; cases q
    | some xs =>
      rw [hg] at q
      simp only [Option.bind_some] at q
      split at q
      · cases q
        rename_i hl
        refine ⟨H₀, Hf₀, ρ, Hf, _, R, hg, fun vs H1 Hf1 R1 s1 t1 h1 => ⟨by rw [h1.length]; exact hl, fun p hp => ?_⟩⟩
        exact k _ _ _ _ (R1.layN hp) (s1.trans (same_upd hp)) t1 h1 upd_same (R1.sf.free hp) (s1.free hp)
      · cases q
def blF (f : FE) : FT := fun ρ => (f ρ).bind fun | .bl b => some b | _ => none
theorem blF_some {f : FE} {ρ : Rho} {b : Bool} (h : blF f ρ = some b) : f ρ = some (.bl b) := by
  unfold blF at h
  cases hf : f ρ with
  | none => rw [hf] at h; cases h
  | some x => rw [hf] at h; cases x <;> cases h; rfl
theorem dt_val (h : DR X e f) (he : ∀ whole, isTrue e X.env whole = (do let v ← whole; standAt e.pos; holding [v] (truthy v)) := by intro _; rfl) : DT X e (blF f) :=
  pt_imp (pt_val h he) fun σ H Q ⟨H₀, Hf₀, ρ, Hf, d, R, q, k⟩ => ⟨H₀, Hf₀, ρ, Hf, _, R, blF_some q, fun v H1 Hf1 R1 s1 t1 h1 => ⟨d, h1.bl, k _ _ R1 s1 t1⟩⟩
theorem pt_of_cmp {op : CmpOp} {r : R2} {φ : D → D → Option D} (ho : OpR X (compareOp op) r) (hφ : OpD X r φ) (ha : DR X a f) (hb : DR X b g) (hm : behindInMarks op b = false) : DT X (.Compare a [op] [b] pos) (blF (bind2 φ f g)) :=
  pt_imp (pt_cmpR ho ha hb hm) fun σ H Q ⟨H₀, Hf₀, ρ, Hf, d, R, q, k⟩ => tOp_of hφ σ H _ ⟨H₀, Hf₀, ρ, Hf, _, R, blF_some q, fun v H1 Hf1 R1 s1 t1 h1 => ⟨d, Has.bl_iff.mp h1, k _ _ R1 s1 t1⟩⟩
theorem dt_lt (ha : DR X a f) (hb : DR X b g) : DT X (.Compare a [.Lt] [b] pos) (blF (bind2 ltD f g)) := pt_of_cmp op_lt opD_lt ha hb (nomark _)
theorem dt_gt (ha : DR X a f) (hb : DR X b g) : DT X (.Compare a [.Gt] [b] pos) (blF (bind2 gtD f g)) := pt_of_cmp op_gt opD_gt ha hb (nomark _)
theorem dt_ge (ha : DR X a f) (hb : DR X b g) : DT X (.Compare a [.GtE] [b] pos) (blF (bind2 geD f g)) := pt_of_cmp op_ge opD_ge ha hb (nomark _)
theorem dt_is (ha : DR X a f) (hb : DR X b g) : DT X (.Compare a [.Is] [b] pos) (blF (bind2 (isD false) f g)) := pt_of_cmp op_isN opD_is ha hb (nomark _)
def orT (f g : FT) : FT := fun ρ => (f ρ).bind fun b => if b = true then some true else g ρ
def notT (f : FT) : FT := fun ρ => (f ρ).bind fun b => some (!b)
variable {rest : List Expr}
theorem bindT_some {α : Type} {f : Rho → Option Bool} {k : Bool → Option α} {ρ : Rho} {r : α} (h : (f ρ).bind k = some r) : ∃ b, f ρ = some b ∧ k b = some r := by
  cases hf : f ρ with
  | none => rw [hf] at h; cases h
  | some x => rw [hf] at h; exact ⟨x, rfl, h⟩
theorem dw_or1 (ha : DT X a ft) : DW X (.BoolOp .Or [a] pos) ft := pw_or1 ha
theorem dw_or (ha : DT X a ft) (hb : DW X (.BoolOp .Or (b :: rest) pos) gt) : DW X (.BoolOp .Or (a :: b :: rest) pos) (orT ft gt) :=
  pw_imp (pw_or ha hb) fun σ H Q ⟨H₀, Hf₀, ρ, Hf, d, R, q, k⟩ => by
    obtain ⟨b, e1, e2⟩ := bindT_some q
    refine ⟨H₀, Hf₀, ρ, Hf, b, R, e1, fun H1 Hf1 R1 s1 t1 => ?_⟩
    cases b with
    | false => exact iteF ⟨H₀, Hf₀, ρ, Hf1, d, R1, e2, fun H2 Hf2 R2 s2 t2 => k _ _ R2 (s1.trans s2) (t1.trans t2)⟩
    | true => cases e2; exact iteT (k _ _ R1 s1 t1)
theorem DW.dt (h : DW X e ft) : DT X e ft := PW.pt h
theorem dt_not (ha : DT X a ft) : DT X (.UnaryOp .Not a pos) (notT ft) :=
  pt_imp (pt_not ha) fun σ H Q ⟨H₀, Hf₀, ρ, Hf, d, R, q, k⟩ => by
    obtain ⟨b, e1, e2⟩ := bindT_some q
    cases e2
    exact ⟨H₀, Hf₀, ρ, Hf, b, R, e1, fun H1 Hf1 R1 s1 t1 => k _ _ R1 s1 t1⟩
def andV (f g : FE) : FE := fun ρ => (f ρ).bind fun | .bl b => (if b = true then g ρ else some (.bl false)) | _ => none
def notV (f : FE) : FE := fun ρ => (f ρ).bind fun | .bl b => some (.bl (!b)) | _ => none
theorem bindV_some {α : Type} {f : FE} {k : D → Option α} {ρ : Rho} {r : α} (h : (f ρ).bind k = some r) : ∃ b, f ρ = some b ∧ k b = some r := by
  cases hf : f ρ with
  | none => rw [hf] at h; cases h
  | some x => rw [hf] at h; exact ⟨x, rfl, h⟩
theorem d_one {op} (h : DE X a f) : DE X (.BoolOp op [a] pos) f := pe_one h
theorem d_and (ha : DE X a f) (hb : DE X (.BoolOp .And (b :: rest) pos) g) : DE X (.BoolOp .And (a :: b :: rest) pos) (andV f g) :=
  pe_imp (pe_and ha hb) fun σ H Q ⟨H₀, Hf₀, ρ, Hf, d, R, q, k⟩ => by
    obtain ⟨x, e1, e2⟩ := bindV_some q
    cases x <;> try cases e2
    rename_i b
    refine ⟨H₀, Hf₀, ρ, Hf, _, R, e1, fun v H1 Hf1 R1 s1 t1 h1 => ⟨b, Has.bl_iff.mp h1, ?_⟩⟩
    cases b with
    | true => exact iteT ⟨H₀, Hf₀, ρ, Hf1, d, R1, e2, fun v H2 Hf2 R2 s2 t2 h2 => k _ _ _ R2 (s1.trans s2) (t1.trans t2) h2⟩
    | false => cases e2; exact iteF (k _ _ _ R1 s1 t1 (Has.bl_iff.mpr rfl))
theorem d_not (ha : DE X a f) : DE X (.UnaryOp .Not a pos) (notV f) :=
  pe_imp (pe_not ha) fun σ H Q ⟨H₀, Hf₀, ρ, Hf, d, R, q, k⟩ => by
    obtain ⟨x, e1, e2⟩ := bindV_some q
    cases x <;> try cases e2
    rename_i b
    exact ⟨H₀, Hf₀, ρ, Hf, _, R, e1, fun v H1 Hf1 R1 s1 t1 h1 => ⟨b, Has.bl_iff.mp h1, k _ _ _ R1 s1 t1 (Has.bl_iff.mpr rfl)⟩⟩
def ifF (c : FT) (f g : FE) : FE := fun ρ => (c ρ).bind fun b => if b = true then f ρ else g ρ
theorem d_ifExp (hc : DT X c ft) (ha : DE X a f) (hb : DE X b g) : DE X (.IfExp c a b pos) (ifF ft f g) :=
  pe_imp (pe_ifExp hc ha hb) fun σ H Q ⟨H₀, Hf₀, ρ, Hf, d, R, q, k⟩ => by
    obtain ⟨x, e1, e2⟩ := bindT_some q
    refine ⟨H₀, Hf₀, ρ, Hf, x, R, e1, fun H1 Hf1 R1 s1 t1 => ?_⟩
    cases x with
    | true => exact iteT ⟨H₀, Hf₀, ρ, Hf1, d, R1, e2, fun v H2 Hf2 R2 s2 t2 h2 => k _ _ _ R2 (s1.trans s2) (t1.trans t2) h2⟩
    | false => exact iteF ⟨H₀, Hf₀, ρ, Hf1, d, R1, e2, fun v H2 Hf2 R2 s2 t2 h2 => k _ _ _ R2 (s1.trans s2) (t1.trans t2) h2⟩
end
end FL
set_option Elab.async false
set_option linter.all false
set_option maxRecDepth 100000
set_option maxHeartbeats 4000000
namespace FL
open PySem PySem.Spec PyProof.Rows L2
mutual
def eqD : D → D → Bool
  | .non, .non => true
  | .bl a, .bl b => a == b
  | .bl a, .int b => (if a then 1 else 0) == b
  | .int a, .bl b => a == (if b then 1 else 0)
  | .int a, .int b => a == b
  | .str a, .str b => a == b
  | .tup a, .tup b => eqDL a b
  | .lst a, .lst b => eqDL a b
  | _, _ => false
def eqDL : List D → List D → Bool
  | [], [] => true
  | x :: xs, y :: ys => eqD x y && eqDL xs ys
  | _, _ => false
end
mutual
def dep : D → Nat
  | .tup a => depL a + 1
  | .lst a => depL a + 1
  | _ => 0
def depL : List D → Nat
  | [] => 0
  | x :: xs => max (dep x) (depL xs)
end
theorem depL_le {l : List D} {k : Nat} (h : ∀ d ∈ l, dep d ≤ k) : depL l ≤ k := by
  induction l with
  | nil => simp [depL]
  | cons x xs ih =>
    unfold depL
    exact Nat.max_le.mpr ⟨h x List.mem_cons_self, ih fun d hd => h d (List.mem_cons_of_mem _ hd)⟩
mutual
theorem eqD_refl : ∀ d : D, eqD d d = true
  | .non => by simp [eqD]
  | .bl b => by simp [eqD]
  | .int i => by simp [eqD]
  | .str x => by simp [eqD]
  | .tup ds => by unfold eqD; exact eqDL_refl ds
  | .lst ds => by unfold eqD; exact eqDL_refl ds
theorem eqDL_refl : ∀ ds : List D, eqDL ds ds = true
  | [] => by simp [eqDL]
  | d :: ds => by unfold eqDL; rw [eqD_refl d, eqDL_refl ds]; rfl
end
theorem eqDL_eq : ∀ (xs ys : List D), eqDL xs ys = ((List.range (min xs.length ys.length)).all (fun j => eqD (xs.getD j .non) (ys.getD j .non)) && xs.length == ys.length)
  | [], [] => by simp [eqDL]
  | [], y :: ys => by simp [eqDL]
  | x :: xs, [] => by simp [eqDL]
  | x :: xs, y :: ys => by
    unfold eqDL
    rw [eqDL_eq xs ys]
    have e : min (x :: xs).length (y :: ys).length = min xs.length ys.length + 1 := by simp only [List.length_cons]; omega
    rw [e, List.range_succ_eq_map, List.all_cons, List.all_map]
    simp [Function.comp_def, Bool.and_assoc]
section
variable {X : Cx} {pins : List (Addr × Obj)} {σ : St} {H Hf : Hp} {s : Shared}
mutual
/-- one value, one datum -/
theorem Has.inj (I : Inv X pins σ H s) : ∀ {d d' : D} {v : V}, Has X.K H d v → Has X.K H d' v → d = d'
  | .non, d', v, h, h' => by
    rw [Has.non_iff] at h; subst h
    cases d' with
    | non => rfl
    | bl b => cases Has.bl_iff.mp h'
    | int b => cases Has.int_iff.mp h'
    | str b => cases Has.str_iff.mp h'
    | tup b => obtain ⟨_, _, e, _⟩ := Has.tup_iff.mp h'; cases e
    | lst b => obtain ⟨_, _, e, _⟩ := Has.lst_iff.mp h'; cases e
  | .bl x, d', v, h, h' => by
    rw [Has.bl_iff] at h; subst h
    cases d' with
    | non => cases Has.non_iff.mp h'
    | bl b => cases Has.bl_iff.mp h'; rfl
    | int b => cases Has.int_iff.mp h'
    | str b => cases Has.str_iff.mp h'
    | tup b => obtain ⟨_, _, e, _⟩ := Has.tup_iff.mp h'; cases e
    | lst b => obtain ⟨_, _, e, _⟩ := Has.lst_iff.mp h'; cases e
  | .int x, d', v, h, h' => by
    rw [Has.int_iff] at h; subst h
    cases d' with
    | non => cases Has.non_iff.mp h'
    | bl b => cases Has.bl_iff.mp h'
    | int b => cases Has.int_iff.mp h'; rfl
    | str b => cases Has.str_iff.mp h'
    | tup b => obtain ⟨_, _, e, _⟩ := Has.tup_iff.mp h'; cases e
    | lst b => obtain ⟨_, _, e, _⟩ := Has.lst_iff.mp h'; cases e
  | .str x, d', v, h, h' => by
    rw [Has.str_iff] at h; subst h
    cases d' with
    | non => cases Has.non_iff.mp h'
    | bl b => cases Has.bl_iff.mp h'
    | int b => cases Has.int_iff.mp h'
    | str b => cases Has.str_iff.mp h'; rfl
    | tup b => obtain ⟨_, _, e, _⟩ := Has.tup_iff.mp h'; cases e
    | lst b => obtain ⟨_, _, e, _⟩ := Has.lst_iff.mp h'; cases e
  | .tup x, d', v, h, h' => by
    obtain ⟨a, xs, rfl, qa, la⟩ := Has.tup_iff.mp h
    cases d' with
    | non => cases Has.non_iff.mp h'
    | bl b => cases Has.bl_iff.mp h'
    | int b => cases Has.int_iff.mp h'
    | str b => cases Has.str_iff.mp h'
    | tup b =>
      obtain ⟨a', ys, e, qb, lb⟩ := Has.tup_iff.mp h'
      cases e
      cases I.tuple_inj qa qb
      rw [HasL.inj I la lb]
    | lst b =>
      obtain ⟨a', ys, e, qb, lb⟩ := Has.lst_iff.mp h'
      cases e
      obtain ⟨its, _, p1, _⟩ := I.tuple qa
      obtain ⟨its', _, p2, _⟩ := I.list qb
      exact absurd rfl (SeqAt.ne_of_list_tuple p2.isList p1)
  | .lst x, d', v, h, h' => by
    obtain ⟨a, xs, rfl, qa, la⟩ := Has.lst_iff.mp h
    cases d' with
    | non => cases Has.non_iff.mp h'
    | bl b => cases Has.bl_iff.mp h'
    | int b => cases Has.int_iff.mp h'
    | str b => cases Has.str_iff.mp h'
    | lst b =>
      obtain ⟨a', ys, e, qb, lb⟩ := Has.lst_iff.mp h'
      cases e
      cases I.list_inj qa qb
      rw [HasL.inj I la lb]
    | tup b =>
      obtain ⟨a', ys, e, qb, lb⟩ := Has.tup_iff.mp h'
      cases e
      obtain ⟨its, _, p1, _⟩ := I.tuple qb
      obtain ⟨its', _, p2, _⟩ := I.list qa
      exact absurd rfl (SeqAt.ne_of_list_tuple p2.isList p1)
theorem HasL.inj (I : Inv X pins σ H s) : ∀ {ds ds' : List D} {xs : List V}, HasL X.K H ds xs → HasL X.K H ds' xs → ds = ds'
  | [], ds', xs, h, h' => by
    rw [HasL.nil_iff] at h; subst h
    cases ds' with
    | nil => rfl
    | cons d r => obtain ⟨_, _, e, _⟩ := HasL.cons_iff.mp h'; cases e
  | d :: ds, ds', xs, h, h' => by
    obtain ⟨x, r, rfl, h1, h2⟩ := HasL.cons_iff.mp h
    cases ds' with
    | nil => rw [HasL.nil_iff] at h'; cases h'
    | cons d' r' =>
      obtain ⟨x', r'', e, h1', h2'⟩ := HasL.cons_iff.mp h'
      cases e
      rw [Has.inj I h1 h1', HasL.inj I h2 h2']
end
open SeqAt in
mutual
theorem eqAt_of (I : Inv X pins σ H s) : ∀ (d : D) (A : Around) (d' : D) (v v' : V) (u u' : Value), Has X.K H d v → Has X.K H d' v' → RelV v u → RelV v' u' → A.units + dep d < cLine → EqAt A s u u' (eqD d d')
  | .non, A, d', v, v', u, u', h, h', r, r', hu => by
    have hu : A.units < cLine := by omega
    rw [Has.non_iff] at h; subst h
    cases r
    cases d' with
    | non => rw [Has.non_iff] at h'; subst h'; cases r'; exact EqAt.same _
    | bl b => rw [Has.bl_iff] at h'; subst h'; cases r'; exact EqAt.none_bool _
    | int b => rw [Has.int_iff] at h'; subst h'; obtain ⟨t, rfl⟩ := r'; exact EqAt.none_int _ _
    | str b => rw [Has.str_iff] at h'; subst h'; obtain ⟨t, rfl⟩ := r'; exact EqAt.none_str _ _
    | tup b => obtain ⟨a, xs, rfl, q, _⟩ := Has.tup_iff.mp h'; cases r'; obtain ⟨its, _, p, _⟩ := I.tuple q; exact EqAt.none_tuple p hu
    | lst b => obtain ⟨a, xs, rfl, q, _⟩ := Has.lst_iff.mp h'; cases r'; obtain ⟨its, _, p, _⟩ := I.list q; exact EqAt.none_list p.isList hu
  | .bl x, A, d', v, v', u, u', h, h', r, r', hu => by
    have hu : A.units < cLine := by omega
    rw [Has.bl_iff] at h; subst h
    cases r
    cases d' with
    | non => rw [Has.non_iff] at h'; subst h'; cases r'; exact EqAt.bool_none _
    | bl b => rw [Has.bl_iff] at h'; subst h'; cases r'; exact EqAt.bool_bool _ _
    | int b => rw [Has.int_iff] at h'; subst h'; obtain ⟨t, rfl⟩ := r'; exact EqAt.bool_int _ _ _
    | str b => rw [Has.str_iff] at h'; subst h'; obtain ⟨t, rfl⟩ := r'; exact EqAt.bool_str _ _ _
    | tup b => obtain ⟨a, xs, rfl, q, _⟩ := Has.tup_iff.mp h'; cases r'; obtain ⟨its, _, p, _⟩ := I.tuple q; exact EqAt.bool_tuple _ p hu
    | lst b => obtain ⟨a, xs, rfl, q, _⟩ := Has.lst_iff.mp h'; cases r'; obtain ⟨its, _, p, _⟩ := I.list q; exact EqAt.bool_list _ p.isList hu
  | .int x, A, d', v, v', u, u', h, h', r, r', hu => by
    have hu : A.units < cLine := by omega
    rw [Has.int_iff] at h; subst h
    obtain ⟨t, rfl⟩ := r
    cases d' with
    | non => rw [Has.non_iff] at h'; subst h'; cases r'; exact EqAt.int_none _ _
    | bl b => rw [Has.bl_iff] at h'; subst h'; cases r'; exact EqAt.int_bool _ _ _
    | int b => rw [Has.int_iff] at h'; subst h'; obtain ⟨t, rfl⟩ := r'; exact EqAt.int_int _ _ _ _
    | str b => rw [Has.str_iff] at h'; subst h'; obtain ⟨t, rfl⟩ := r'; exact EqAt.int_str _ _ _ _
    | tup b => obtain ⟨a, xs, rfl, q, _⟩ := Has.tup_iff.mp h'; cases r'; obtain ⟨its, _, p, _⟩ := I.tuple q; exact EqAt.int_tuple _ _ p hu
    | lst b => obtain ⟨a, xs, rfl, q, _⟩ := Has.lst_iff.mp h'; cases r'; obtain ⟨its, _, p, _⟩ := I.list q; exact EqAt.int_list _ _ p.isList hu
  | .str x, A, d', v, v', u, u', h, h', r, r', hu => by
    have hu : A.units < cLine := by omega
    rw [Has.str_iff] at h; subst h
    obtain ⟨t, rfl⟩ := r
    cases d' with
    | non => rw [Has.non_iff] at h'; subst h'; cases r'; exact EqAt.str_none _ _
    | bl b => rw [Has.bl_iff] at h'; subst h'; cases r'; exact EqAt.str_bool _ _ _
    | int b => rw [Has.int_iff] at h'; subst h'; obtain ⟨t, rfl⟩ := r'; exact EqAt.str_int _ _ _ _
    | str b => rw [Has.str_iff] at h'; subst h'; obtain ⟨t, rfl⟩ := r'; exact EqAt.str_str _ _ _ _
    | tup b => obtain ⟨a, xs, rfl, q, _⟩ := Has.tup_iff.mp h'; cases r'; obtain ⟨its, _, p, _⟩ := I.tuple q; exact EqAt.str_tuple _ _ p hu
    | lst b => obtain ⟨a, xs, rfl, q, _⟩ := Has.lst_iff.mp h'; cases r'; obtain ⟨its, _, p, _⟩ := I.list q; exact EqAt.str_list _ _ p.isList hu
  | .tup x, A, d', v, v', u, u', h, h', r, r', hu => by
    have hu0 : A.units < cLine := by omega
    obtain ⟨a, xs, rfl, q, l⟩ := Has.tup_iff.mp h
    cases r
    obtain ⟨its, rv, p, _⟩ := I.tuple q
    cases d' with
    | non => rw [Has.non_iff] at h'; subst h'; cases r'; exact EqAt.tuple_none p hu0
    | bl b => rw [Has.bl_iff] at h'; subst h'; cases r'; exact EqAt.tuple_bool _ p hu0
    | int b => rw [Has.int_iff] at h'; subst h'; obtain ⟨t, rfl⟩ := r'; exact EqAt.tuple_int _ _ p hu0
    | str b => rw [Has.str_iff] at h'; subst h'; obtain ⟨t, rfl⟩ := r'; exact EqAt.tuple_str _ _ p hu0
    | tup y =>
      obtain ⟨b, ys, rfl, q', l'⟩ := Has.tup_iff.mp h'
      cases r'
      obtain ⟨its', rv', p', _⟩ := I.tuple q'
      by_cases hab : a = b
      · subst hab
        cases Has.inj I h h'
        rw [eqD_refl]
        exact EqAt.same _
      · refine EqAt.of_refs hab ?_
        have e := RcAt.tuples (A := A) (e := fun j => eqD (x.getD j .non) (y.getD j .non)) p p' hu0 (fun j h1 h2 => eqAtL_of I x A.in1 y xs ys its its' l l' rv rv' (by show A.units + 1 + _ < cLine; unfold dep at hu; omega) j (by simpa using h1) (by simpa using h2))
        unfold eqD
        rw [eqDL_eq, ← l.length, ← l'.length, rv.length, rv'.length]
        simpa using e
    | lst y => obtain ⟨b, ys, rfl, q', l'⟩ := Has.lst_iff.mp h'; cases r'; obtain ⟨its', _, p', _⟩ := I.list q'; exact EqAt.tuple_list p p'.isList hu0
  | .lst x, A, d', v, v', u, u', h, h', r, r', hu => by
    have hu0 : A.units < cLine := by omega
    obtain ⟨a, xs, rfl, q, l⟩ := Has.lst_iff.mp h
    cases r
    obtain ⟨its, rv, p, _⟩ := I.list q
    cases d' with
    | non => rw [Has.non_iff] at h'; subst h'; cases r'; exact EqAt.list_none p.isList hu0
    | bl b => rw [Has.bl_iff] at h'; subst h'; cases r'; exact EqAt.list_bool _ p.isList hu0
    | int b => rw [Has.int_iff] at h'; subst h'; obtain ⟨t, rfl⟩ := r'; exact EqAt.list_int _ _ p.isList hu0
    | str b => rw [Has.str_iff] at h'; subst h'; obtain ⟨t, rfl⟩ := r'; exact EqAt.list_str _ _ p.isList hu0
    | lst y =>
      obtain ⟨b, ys, rfl, q', l'⟩ := Has.lst_iff.mp h'
      cases r'
      obtain ⟨its', rv', p', _⟩ := I.list q'
      by_cases hab : a = b
      · subst hab
        cases Has.inj I h h'
        rw [eqD_refl]
        exact EqAt.same _
      · refine EqAt.of_refs hab ?_
        unfold eqD
        rw [eqDL_eq, ← l.length, ← l'.length, rv.length, rv'.length]
        by_cases hl : its.length = its'.length
        · have e := RcAt.lists (A := A) (e := fun j => eqD (x.getD j .non) (y.getD j .non)) p.isList p'.isList (by simpa using hl) hu0 (fun j h1 h2 => eqAtL_of I x A.in1 y xs ys its its' l l' rv rv' (by show A.units + 1 + _ < cLine; unfold dep at hu; omega) j (by simpa using h1) (by simpa using h2))
          rw [← hl, Nat.min_self]
          simpa using e
        · have e := RcAt.lists_lengths (A := A) p.isList p'.isList (by simpa using hl) hu0
          have : (its.length == its'.length) = false := by simpa using hl
          rw [this, Bool.and_false]
          exact e
    | tup y => obtain ⟨b, ys, rfl, q', l'⟩ := Has.tup_iff.mp h'; cases r'; obtain ⟨its', _, p', _⟩ := I.tuple q'; exact EqAt.list_tuple p.isList p' hu0
theorem eqAtL_of (I : Inv X pins σ H s) : ∀ (ds : List D) (A : Around) (ds' : List D) (xs ys : List V) (us us' : List Value), HasL X.K H ds xs → HasL X.K H ds' ys → Vals xs us → Vals ys us' → A.units + depL ds < cLine →
    ∀ (j : Nat) (h1 : j < us.length) (h2 : j < us'.length), EqAt A s us[j] us'[j] (eqD (ds.getD j .non) (ds'.getD j .non))
  | [], A, ds', xs, ys, us, us', l, l', r, r', hu, j, h1, h2 => by
    rw [HasL.nil_iff] at l; subst l
    cases r
    simp at h1
  | d :: ds, A, ds', xs, ys, us, us', l, l', r, r', hu, j, h1, h2 => by
    obtain ⟨x, xr, rfl, hx, hr⟩ := HasL.cons_iff.mp l
    cases ds' with
    | nil =>
      rw [HasL.nil_iff] at l'; subst l'
      cases r'
      simp at h2
    | cons d' ds' =>
      obtain ⟨y, yr, rfl, hy, hyr⟩ := HasL.cons_iff.mp l'
      cases r with
      | cons r rr =>
        cases r' with
        | cons r' rr' =>
          unfold depL at hu
          cases j with
          | zero => exact eqAt_of I d A d' _ _ _ _ hx hy r r' (by have := Nat.le_max_left (dep d) (depL ds); omega)
          | succ j => exact eqAtL_of I ds A ds' _ _ _ _ hr hyr rr rr' (by have := Nat.le_max_right (dep d) (depL ds); omega) j (by simpa using h1) (by simpa using h2)
end
open SeqAt in
/-- == without the look whether both are one object -/
theorem rcAt_of (I : Inv X pins σ H s) (d : D) (A : Around) (d' : D) (v v' : V) (u u' : Value) (h : Has X.K H d v) (h' : Has X.K H d' v') (r : RelV v u) (r' : RelV v' u') (hu : A.units + dep d < cLine) : RcAt A s u u' (eqD d d') := by
  have hu0 : A.units < cLine := by omega
  cases d with
  | non =>
    rw [Has.non_iff] at h; subst h
    cases r
    cases d' with
    | non => rw [Has.non_iff] at h'; subst h'; cases r'; exact RcAt.none_none
    | bl b => rw [Has.bl_iff] at h'; subst h'; cases r'; exact RcAt.none_bool _
    | int b => rw [Has.int_iff] at h'; subst h'; obtain ⟨t, rfl⟩ := r'; exact RcAt.none_int _ _
    | str b => rw [Has.str_iff] at h'; subst h'; obtain ⟨t, rfl⟩ := r'; exact RcAt.none_str _ _
    | tup b => obtain ⟨a, xs, rfl, q, _⟩ := Has.tup_iff.mp h'; cases r'; obtain ⟨its, _, p, _⟩ := I.tuple q; exact RcAt.none_tuple p hu0
    | lst b => obtain ⟨a, xs, rfl, q, _⟩ := Has.lst_iff.mp h'; cases r'; obtain ⟨its, _, p, _⟩ := I.list q; exact RcAt.none_list p.isList hu0
  | bl x =>
    rw [Has.bl_iff] at h; subst h
    cases r
    cases d' with
    | non => rw [Has.non_iff] at h'; subst h'; cases r'; exact RcAt.bool_none _
    | bl b => rw [Has.bl_iff] at h'; subst h'; cases r'; exact RcAt.bool_bool _ _
    | int b => rw [Has.int_iff] at h'; subst h'; obtain ⟨t, rfl⟩ := r'; exact RcAt.bool_int _ _ _
    | str b => rw [Has.str_iff] at h'; subst h'; obtain ⟨t, rfl⟩ := r'; exact RcAt.bool_str _ _ _
    | tup b => obtain ⟨a, xs, rfl, q, _⟩ := Has.tup_iff.mp h'; cases r'; obtain ⟨its, _, p, _⟩ := I.tuple q; exact RcAt.bool_tuple _ p hu0
    | lst b => obtain ⟨a, xs, rfl, q, _⟩ := Has.lst_iff.mp h'; cases r'; obtain ⟨its, _, p, _⟩ := I.list q; exact RcAt.bool_list _ p.isList hu0
  | int x =>
    rw [Has.int_iff] at h; subst h
    obtain ⟨t, rfl⟩ := r
    cases d' with
    | non => rw [Has.non_iff] at h'; subst h'; cases r'; exact RcAt.int_none _ _
    | bl b => rw [Has.bl_iff] at h'; subst h'; cases r'; exact RcAt.int_bool _ _ _
    | int b => rw [Has.int_iff] at h'; subst h'; obtain ⟨t, rfl⟩ := r'; exact RcAt.int_int _ _ _ _
    | str b => rw [Has.str_iff] at h'; subst h'; obtain ⟨t, rfl⟩ := r'; exact RcAt.int_str _ _ _ _
    | tup b => obtain ⟨a, xs, rfl, q, _⟩ := Has.tup_iff.mp h'; cases r'; obtain ⟨its, _, p, _⟩ := I.tuple q; exact RcAt.int_tuple _ _ p hu0
    | lst b => obtain ⟨a, xs, rfl, q, _⟩ := Has.lst_iff.mp h'; cases r'; obtain ⟨its, _, p, _⟩ := I.list q; exact RcAt.int_list _ _ p.isList hu0
  | str x =>
    rw [Has.str_iff] at h; subst h
    obtain ⟨t, rfl⟩ := r
    cases d' with
    | non => rw [Has.non_iff] at h'; subst h'; cases r'; exact RcAt.str_none _ _
    | bl b => rw [Has.bl_iff] at h'; subst h'; cases r'; exact RcAt.str_bool _ _ _
    | int b => rw [Has.int_iff] at h'; subst h'; obtain ⟨t, rfl⟩ := r'; exact RcAt.str_int _ _ _ _
    | str b => rw [Has.str_iff] at h'; subst h'; obtain ⟨t, rfl⟩ := r'; exact RcAt.str_str _ _ _ _
    | tup b => obtain ⟨a, xs, rfl, q, _⟩ := Has.tup_iff.mp h'; cases r'; obtain ⟨its, _, p, _⟩ := I.tuple q; exact RcAt.str_tuple _ _ p hu0
    | lst b => obtain ⟨a, xs, rfl, q, _⟩ := Has.lst_iff.mp h'; cases r'; obtain ⟨its, _, p, _⟩ := I.list q; exact RcAt.str_list _ _ p.isList hu0
  | tup x =>
    obtain ⟨a, xs, rfl, q, l⟩ := Has.tup_iff.mp h
    cases r
    obtain ⟨its, rv, p, _⟩ := I.tuple q
    cases d' with
    | non => rw [Has.non_iff] at h'; subst h'; cases r'; exact RcAt.tuple_none p hu0
    | bl b => rw [Has.bl_iff] at h'; subst h'; cases r'; exact RcAt.tuple_bool _ p hu0
    | int b => rw [Has.int_iff] at h'; subst h'; obtain ⟨t, rfl⟩ := r'; exact RcAt.tuple_int _ _ p hu0
    | str b => rw [Has.str_iff] at h'; subst h'; obtain ⟨t, rfl⟩ := r'; exact RcAt.tuple_str _ _ p hu0
    | tup y =>
      obtain ⟨b, ys, rfl, q', l'⟩ := Has.tup_iff.mp h'
      cases r'
      obtain ⟨its', rv', p', _⟩ := I.tuple q'
      have e := RcAt.tuples (A := A) (e := fun j => eqD (x.getD j .non) (y.getD j .non)) p p' hu0 (fun j h1 h2 => eqAtL_of I x A.in1 y xs ys its its' l l' rv rv' (by show A.units + 1 + _ < cLine; unfold dep at hu; omega) j (by simpa using h1) (by simpa using h2))
      unfold eqD
      rw [eqDL_eq, ← l.length, ← l'.length, rv.length, rv'.length]
      simpa using e
    | lst y => obtain ⟨b, ys, rfl, q', l'⟩ := Has.lst_iff.mp h'; cases r'; obtain ⟨its', _, p', _⟩ := I.list q'; exact RcAt.tuple_list p p'.isList hu0
  | lst x =>
    obtain ⟨a, xs, rfl, q, l⟩ := Has.lst_iff.mp h
    cases r
    obtain ⟨its, rv, p, _⟩ := I.list q
    cases d' with
    | non => rw [Has.non_iff] at h'; subst h'; cases r'; exact RcAt.list_none p.isList hu0
    | bl b => rw [Has.bl_iff] at h'; subst h'; cases r'; exact RcAt.list_bool _ p.isList hu0
    | int b => rw [Has.int_iff] at h'; subst h'; obtain ⟨t, rfl⟩ := r'; exact RcAt.list_int _ _ p.isList hu0
    | str b => rw [Has.str_iff] at h'; subst h'; obtain ⟨t, rfl⟩ := r'; exact RcAt.list_str _ _ p.isList hu0
    | lst y =>
      obtain ⟨b, ys, rfl, q', l'⟩ := Has.lst_iff.mp h'
      cases r'
      obtain ⟨its', rv', p', _⟩ := I.list q'
      unfold eqD
      rw [eqDL_eq, ← l.length, ← l'.length, rv.length, rv'.length]
      by_cases hl : its.length = its'.length
      · have e := RcAt.lists (A := A) (e := fun j => eqD (x.getD j .non) (y.getD j .non)) p.isList p'.isList (by simpa using hl) hu0 (fun j h1 h2 => eqAtL_of I x A.in1 y xs ys its its' l l' rv rv' (by show A.units + 1 + _ < cLine; unfold dep at hu; omega) j (by simpa using h1) (by simpa using h2))
        rw [← hl, Nat.min_self]
        simpa using e
      · have e := RcAt.lists_lengths (A := A) p.isList p'.isList (by simpa using hl) hu0
        have : (its.length == its'.length) = false := by simpa using hl
        rw [this, Bool.and_false]
        exact e
    | tup y => obtain ⟨b, ys, rfl, q', l'⟩ := Has.tup_iff.mp h'; cases r'; obtain ⟨its', _, p', _⟩ := I.tuple q'; exact RcAt.list_tuple p.isList p' hu0
open SeqAt in
/-- != -/
theorem rcNe_of (I : Inv X pins σ H s) (d : D) (A : Around) (d' : D) (v v' : V) (u u' : Value) (h : Has X.K H d v) (h' : Has X.K H d' v') (r : RelV v u) (r' : RelV v' u') (hu : A.units + dep d < cLine) : RcNeAt A s u u' (!eqD d d') := by
  have hu0 : A.units < cLine := by omega
  cases d with
  | non =>
    rw [Has.non_iff] at h; subst h
    cases r
    cases d' with
    | non => rw [Has.non_iff] at h'; subst h'; cases r'; exact RcNeAt.none_none
    | bl b => rw [Has.bl_iff] at h'; subst h'; cases r'; exact RcNeAt.none_bool _
    | int b => rw [Has.int_iff] at h'; subst h'; obtain ⟨t, rfl⟩ := r'; exact RcNeAt.none_int _ _
    | str b => rw [Has.str_iff] at h'; subst h'; obtain ⟨t, rfl⟩ := r'; exact RcNeAt.none_str _ _
    | tup b => obtain ⟨a, xs, rfl, q, _⟩ := Has.tup_iff.mp h'; cases r'; obtain ⟨its, _, p, _⟩ := I.tuple q; exact RcNeAt.none_tuple p hu0
    | lst b => obtain ⟨a, xs, rfl, q, _⟩ := Has.lst_iff.mp h'; cases r'; obtain ⟨its, _, p, _⟩ := I.list q; exact RcNeAt.none_list p.isList hu0
  | bl x =>
    rw [Has.bl_iff] at h; subst h
    cases r
    cases d' with
    | non => rw [Has.non_iff] at h'; subst h'; cases r'; exact RcNeAt.bool_none _
    | bl b => rw [Has.bl_iff] at h'; subst h'; cases r'; exact RcNeAt.bool_bool _ _
    | int b => rw [Has.int_iff] at h'; subst h'; obtain ⟨t, rfl⟩ := r'; exact RcNeAt.bool_int _ _ _
    | str b => rw [Has.str_iff] at h'; subst h'; obtain ⟨t, rfl⟩ := r'; exact RcNeAt.bool_str _ _ _
    | tup b => obtain ⟨a, xs, rfl, q, _⟩ := Has.tup_iff.mp h'; cases r'; obtain ⟨its, _, p, _⟩ := I.tuple q; exact RcNeAt.bool_tuple _ p hu0
    | lst b => obtain ⟨a, xs, rfl, q, _⟩ := Has.lst_iff.mp h'; cases r'; obtain ⟨its, _, p, _⟩ := I.list q; exact RcNeAt.bool_list _ p.isList hu0
  | int x =>
    rw [Has.int_iff] at h; subst h
    obtain ⟨t, rfl⟩ := r
    cases d' with
    | non => rw [Has.non_iff] at h'; subst h'; cases r'; exact RcNeAt.int_none _ _
    | bl b => rw [Has.bl_iff] at h'; subst h'; cases r'; exact RcNeAt.int_bool _ _ _
    | int b => rw [Has.int_iff] at h'; subst h'; obtain ⟨t, rfl⟩ := r'; exact RcNeAt.int_int _ _ _ _
    | str b => rw [Has.str_iff] at h'; subst h'; obtain ⟨t, rfl⟩ := r'; exact RcNeAt.int_str _ _ _ _
    | tup b => obtain ⟨a, xs, rfl, q, _⟩ := Has.tup_iff.mp h'; cases r'; obtain ⟨its, _, p, _⟩ := I.tuple q; exact RcNeAt.int_tuple _ _ p hu0
    | lst b => obtain ⟨a, xs, rfl, q, _⟩ := Has.lst_iff.mp h'; cases r'; obtain ⟨its, _, p, _⟩ := I.list q; exact RcNeAt.int_list _ _ p.isList hu0
  | str x =>
    rw [Has.str_iff] at h; subst h
    obtain ⟨t, rfl⟩ := r
    cases d' with
    | non => rw [Has.non_iff] at h'; subst h'; cases r'; exact RcNeAt.str_none _ _
    | bl b => rw [Has.bl_iff] at h'; subst h'; cases r'; exact RcNeAt.str_bool _ _ _
    | int b => rw [Has.int_iff] at h'; subst h'; obtain ⟨t, rfl⟩ := r'; exact RcNeAt.str_int _ _ _ _
    | str b => rw [Has.str_iff] at h'; subst h'; obtain ⟨t, rfl⟩ := r'; exact RcNeAt.str_str _ _ _ _
    | tup b => obtain ⟨a, xs, rfl, q, _⟩ := Has.tup_iff.mp h'; cases r'; obtain ⟨its, _, p, _⟩ := I.tuple q; exact RcNeAt.str_tuple _ _ p hu0
    | lst b => obtain ⟨a, xs, rfl, q, _⟩ := Has.lst_iff.mp h'; cases r'; obtain ⟨its, _, p, _⟩ := I.list q; exact RcNeAt.str_list _ _ p.isList hu0
  | tup x =>
    obtain ⟨a, xs, rfl, q, l⟩ := Has.tup_iff.mp h
    cases r
    obtain ⟨its, rv, p, _⟩ := I.tuple q
    cases d' with
    | non => rw [Has.non_iff] at h'; subst h'; cases r'; exact RcNeAt.tuple_none p hu0
    | bl b => rw [Has.bl_iff] at h'; subst h'; cases r'; exact RcNeAt.tuple_bool _ p hu0
    | int b => rw [Has.int_iff] at h'; subst h'; obtain ⟨t, rfl⟩ := r'; exact RcNeAt.tuple_int _ _ p hu0
    | str b => rw [Has.str_iff] at h'; subst h'; obtain ⟨t, rfl⟩ := r'; exact RcNeAt.tuple_str _ _ p hu0
    | tup y =>
      obtain ⟨b, ys, rfl, q', l'⟩ := Has.tup_iff.mp h'
      cases r'
      obtain ⟨its', rv', p', _⟩ := I.tuple q'
      have e := RcNeAt.tuples (A := A) (e := fun j => eqD (x.getD j .non) (y.getD j .non)) p p' hu0 (fun j h1 h2 => eqAtL_of I x A.in1 y xs ys its its' l l' rv rv' (by show A.units + 1 + _ < cLine; unfold dep at hu; omega) j (by simpa using h1) (by simpa using h2))
      unfold eqD
      rw [eqDL_eq, ← l.length, ← l'.length, rv.length, rv'.length]
      simpa using e
    | lst y => obtain ⟨b, ys, rfl, q', l'⟩ := Has.lst_iff.mp h'; cases r'; obtain ⟨its', _, p', _⟩ := I.list q'; exact RcNeAt.tuple_list p p'.isList hu0
  | lst x =>
    obtain ⟨a, xs, rfl, q, l⟩ := Has.lst_iff.mp h
    cases r
    obtain ⟨its, rv, p, _⟩ := I.list q
    cases d' with
    | non => rw [Has.non_iff] at h'; subst h'; cases r'; exact RcNeAt.list_none p.isList hu0
    | bl b => rw [Has.bl_iff] at h'; subst h'; cases r'; exact RcNeAt.list_bool _ p.isList hu0
    | int b => rw [Has.int_iff] at h'; subst h'; obtain ⟨t, rfl⟩ := r'; exact RcNeAt.list_int _ _ p.isList hu0
    | str b => rw [Has.str_iff] at h'; subst h'; obtain ⟨t, rfl⟩ := r'; exact RcNeAt.list_str _ _ p.isList hu0
    | lst y =>
      obtain ⟨b, ys, rfl, q', l'⟩ := Has.lst_iff.mp h'
      cases r'
      obtain ⟨its', rv', p', _⟩ := I.list q'
      unfold eqD
      rw [eqDL_eq, ← l.length, ← l'.length, rv.length, rv'.length]
      by_cases hl : its.length = its'.length
      · have e := RcNeAt.lists (A := A) (e := fun j => eqD (x.getD j .non) (y.getD j .non)) p.isList p'.isList (by simpa using hl) hu0 (fun j h1 h2 => eqAtL_of I x A.in1 y xs ys its its' l l' rv rv' (by show A.units + 1 + _ < cLine; unfold dep at hu; omega) j (by simpa using h1) (by simpa using h2))
        rw [← hl, Nat.min_self]
        simpa using e
      · have e := RcNeAt.lists_lengths (A := A) p.isList p'.isList (by simpa using hl) hu0
        have : (its.length == its'.length) = false := by simpa using hl
        rw [this, Bool.and_false]
        exact e
    | tup y => obtain ⟨b, ys, rfl, q', l'⟩ := Has.tup_iff.mp h'; cases r'; obtain ⟨its', _, p', _⟩ := I.tuple q'; exact RcNeAt.list_tuple p.isList p' hu0
end
end FL
set_option Elab.async false
set_option linter.all false
set_option maxRecDepth 100000
set_option maxHeartbeats 4000000
namespace FL
open PySem PySem.Spec PyProof.Rows L2
theorem HasR.full {K : PySem.W.Frag} {H₀ Hf₀ H Hf : Hp} {σ : St} {ρ : Rho} {d : D} {v : V} (h : HasR K Hf σ ρ d v) (R : Rep K H₀ Hf₀ σ ρ H Hf) : Has K H d v := by
  rcases h with h | ⟨i, ds, rfl, e1, e2⟩
  · exact h.mono R.sf
  · obtain ⟨a, p1, ⟨xs, p2, p3⟩, _⟩ := R.ow i _ e1 rfl
    rw [e2] at p1; cases p1
    exact Has.lst_iff.mpr ⟨a, xs, rfl, SqL.of p2, p3.mono R.sf⟩
section
variable {X : Cx} {e a b c : Expr} {es : List Expr} {f g h : FE} {fa ga : FA} {ft gt : FT} {pos : Pos} {t t' : TE} {kk : Nat}
def rEqD (K : PySem.W.Frag) : R2 := fun x y H Q => ∃ d d', Has K H d x ∧ Has K H d' y ∧ dep d ≤ 100 ∧ Q (.bl (eqD d d')) H
def rNeD (K : PySem.W.Frag) : R2 := fun x y H Q => ∃ d d', Has K H d x ∧ Has K H d' y ∧ dep d ≤ 100 ∧ Q (.bl (!eqD d d')) H
theorem op_eqD (hr : Room kk X.A) : OpR X (compareOp .Eq) (rEqD X.K) := by
  intro pins s σ H x y v u Q I rx ry h
  obtain ⟨d, d', h1, h2, h3, q⟩ := h
  exact rcAt_of I d X.A d' x y v u h1 h2 rx ry (by have := hr.un; omega) X.prog X.w X.xe _ ⟨.bl _, H, I, rfl, q⟩
theorem op_neD (hr : Room kk X.A) : OpR X (compareOp .NotEq) (rNeD X.K) := by
  intro pins s σ H x y v u Q I rx ry h
  obtain ⟨d, d', h1, h2, h3, q⟩ := h
  exact rcNe_of I d X.A d' x y v u h1 h2 rx ry (by have := hr.un; omega) X.prog X.w X.xe _ ⟨.bl _, H, I, rfl, q⟩
def eqF : D → D → Option D := fun x y => if dep x ≤ 100 then some (.bl (eqD x y)) else none
def neF : D → D → Option D := fun x y => if dep x ≤ 100 then some (.bl (!eqD x y)) else none
theorem opD_eq : OpD X (rEqD X.K) eqF := by
  intro σ ρ H₀ Hf₀ H Hf x y dx dy d Q R hx hy hφ k
  unfold eqF at hφ
  split at hφ
  · cases hφ
    exact ⟨dx, dy, hx.full R, hy.full R, by assumption, k _ _ _ R sameR sameR (Has.bl_iff.mpr rfl)⟩
  · cases hφ
theorem opD_ne : OpD X (rNeD X.K) neF := by
  intro σ ρ H₀ Hf₀ H Hf x y dx dy d Q R hx hy hφ k
  unfold neF at hφ
  split at hφ
  · cases hφ
    exact ⟨dx, dy, hx.full R, hy.full R, by assumption, k _ _ _ R sameR sameR (Has.bl_iff.mpr rfl)⟩
  · cases hφ
theorem dt_eq (hr : Room kk X.A) (ha : DR X a f) (hb : DR X b g) : DT X (.Compare a [.Eq] [b] pos) (blF (bind2 eqF f g)) := pt_of_cmp (op_eqD hr) opD_eq ha hb (nomark _)
theorem dt_ne (hr : Room kk X.A) (ha : DR X a f) (hb : DR X b g) : DT X (.Compare a [.NotEq] [b] pos) (blF (bind2 neF f g)) := pt_of_cmp (op_neD hr) opD_ne ha hb (nomark _)
def FnR (X : Cx) (r : List V → Hp → VK → Prop) (φ : List D → Option D) : Prop :=
  ∀ (σ : St) (ρ : Rho) (H₀ Hf₀ H Hf : Hp) (xs : List V) (ds : List D) (d : D) (Q : VK), Rep X.K H₀ Hf₀ σ ρ H Hf → HasRL X.K Hf σ ρ ds xs → φ ds = some d →
    (∀ v H' Hf', Rep X.K H₀ Hf₀ σ ρ H' Hf' → Same H H' → Same Hf Hf' → Has X.K Hf' d v → Q v H') → r xs H Q
def appF (φ : List D → Option D) (fa : FA) : FE := fun ρ => (fa ρ).bind φ
theorem bindA_some {α : Type} {f : FA} {k : List D → Option α} {ρ : Rho} {r : α} (h : (f ρ).bind k = some r) : ∃ b, f ρ = some b ∧ k b = some r := by
  cases hf : f ρ with
  | none => rw [hf] at h; cases h
  | some x => rw [hf] at h; exact ⟨x, rfl, h⟩
theorem tCB_of {r : List V → Hp → VK → Prop} {φ : List D → Option D} (hφ : FnR X r φ) (σ : St) (H : Hp) (Q : VK) (hh : tF X.K (appF φ fa) σ H Q) : tCB r (tAR X.K fa) σ H Q := by
  obtain ⟨H₀, Hf₀, ρ, Hf, d, R, q, k⟩ := hh
  obtain ⟨ds, e1, e2⟩ := bindA_some q
  exact ⟨H₀, Hf₀, ρ, Hf, ds, R, e1, fun vs H1 Hf1 R1 s1 t1 h1 => hφ σ ρ H₀ Hf₀ H1 Hf1 vs ds d Q R1 h1 e2 fun v H2 Hf2 R2 s2 t2 h2 => k _ _ _ R2 (s1.trans s2) (t1.trans t2) h2⟩
theorem d_callB {id : String} {x : Str} {p : Pos} {r : List V → Hp → VK → Prop} {φ : List D → Option D} (hc : CallR X (.builtin id) r) (hφ : FnR X r φ) (hg : Gl X x) (hm : X.mg x = none) (hv : bootBuiltins x = some (.builtin id)) (ha : DAR X (e :: es) fa)
    (hn : x ≠ "__name__" := by decide) (hdb : (x == ("__debug__" : Str)) = false := by decide)
    (he : starEach (e :: es) X.env = (false, eval e X.env) :: starEach es X.env := by rfl) (hpl : (backTo pos (starEach es X.env)).any (·.1) = false := by rfl) : DE X (.Call (.Name x p) (e :: es) [] pos) (appF φ fa) :=
  pe_imp (pe_callB hc hg hm hv ha hn hdb he hpl) (tCB_of hφ)
theorem d_callTy {T : String} {x : Str} {p : Pos} {r : List V → Hp → VK → Prop} {φ : List D → Option D} (hc : CallR X (.type T) r) (hφ : FnR X r φ) (hg : Gl X x) (hm : X.mg x = none) (hv : bootBuiltins x = some (.type T)) (ha : DAR X (e :: es) fa)
    (hn : x ≠ "__name__" := by decide) (hdb : (x == ("__debug__" : Str)) = false := by decide)
    (he : starEach (e :: es) X.env = (false, eval e X.env) :: starEach es X.env := by rfl) (hpl : (backTo pos (starEach es X.env)).any (·.1) = false := by rfl) : DE X (.Call (.Name x p) (e :: es) [] pos) (appF φ fa) :=
  pe_imp (pe_callTy hc hg hm hv ha hn hdb he hpl) (tCB_of hφ)
theorem HasRL.one {K : PySem.W.Frag} {Hf : Hp} {σ : St} {ρ : Rho} {d : D} {xs : List V} (h : HasRL K Hf σ ρ [d] xs) : ∃ v, xs = [v] ∧ HasR K Hf σ ρ d v := by
  cases h with
  | cons h1 h2 => cases h2; exact ⟨_, rfl, h1⟩
theorem HasRL.two {K : PySem.W.Frag} {Hf : Hp} {σ : St} {ρ : Rho} {d d' : D} {xs : List V} (h : HasRL K Hf σ ρ [d, d'] xs) : ∃ v v', xs = [v, v'] ∧ HasR K Hf σ ρ d v ∧ HasR K Hf σ ρ d' v' := by
  cases h with
  | cons h1 h2 =>
    cases h2 with
    | cons h2 h3 => cases h3; exact ⟨_, _, rfl, h1, h2⟩
def lenD : List D → Option D
  | [.lst ds] => some (.int ds.length)
  | [.tup ds] => some (.int ds.length)
  | [.str x] => if x.length ≤ sizeLine then some (.int x.length) else none
  | _ => none
theorem call_lenG : CallR X (.builtin "len") (fun xs H Q => (∃ p ys, xs = [.ref p] ∧ (SqL X.K H p ys ∨ SqT X.K H p ys) ∧ Q (.int ys.length) H) ∨ (∃ z, xs = [.str z] ∧ z.length ≤ sizeLine ∧ Q (.int z.length) H)) := CallR.or call_len_seq call_len_str
theorem fnR_len : FnR X (fun xs H Q => (∃ p ys, xs = [.ref p] ∧ (SqL X.K H p ys ∨ SqT X.K H p ys) ∧ Q (.int ys.length) H) ∨ (∃ z, xs = [.str z] ∧ z.length ≤ sizeLine ∧ Q (.int z.length) H)) lenD := by
  intro σ ρ H₀ Hf₀ H Hf xs ds d Q R hx hφ k
  unfold lenD at hφ
  split at hφ
  · cases hφ
    obtain ⟨v, rfl, hv⟩ := hx.one
    obtain ⟨a, ys, rfl, q, l⟩ := hv.lst R
    exact .inl ⟨a, ys, rfl, .inl q, k _ _ _ R sameR sameR (by rw [← l.length]; exact Has.int_iff.mpr rfl)⟩
  · cases hφ
    obtain ⟨v, rfl, hv⟩ := hx.one
    obtain ⟨a, ys, rfl, q, l⟩ := hv.tup R
    exact .inl ⟨a, ys, rfl, .inr q, k _ _ _ R sameR sameR (by rw [← l.length]; exact Has.int_iff.mpr rfl)⟩
  · split at hφ
    · cases hφ
      obtain ⟨v, rfl, hv⟩ := hx.one
      exact .inr ⟨_, by rw [hv.str], by assumption, k _ _ _ R sameR sameR (Has.int_iff.mpr rfl)⟩
    · cases hφ
  · cases hφ
def absD : List D → Option D
  | [.int i] => some (.int (if i < 0 then -i else i))
  | _ => none
def maxD : List D → Option D
  | [.int i, .int j] => some (.int (if j > i then j else i))
  | _ => none
def minD : List D → Option D
  | [.int i, .int j] => some (.int (if j < i then j else i))
  | _ => none
theorem fnR_max : FnR X (fun xs H Q => ∃ i j, xs = [.int i, .int j] ∧ Q (.int (if j > i then j else i)) H) maxD := by
  intro σ ρ H₀ Hf₀ H Hf xs ds d Q R hx hφ k
  unfold maxD at hφ
  split at hφ
  · cases hφ
    obtain ⟨v, v', rfl, hv, hv'⟩ := hx.two
    exact ⟨_, _, by rw [hv.int, hv'.int], k _ _ _ R sameR sameR (Has.int_iff.mpr rfl)⟩
  · cases hφ
theorem fnR_min : FnR X (fun xs H Q => ∃ i j, xs = [.int i, .int j] ∧ Q (.int (if j < i then j else i)) H) minD := by
  intro σ ρ H₀ Hf₀ H Hf xs ds d Q R hx hφ k
  unfold minD at hφ
  split at hφ
  · cases hφ
    obtain ⟨v, v', rfl, hv, hv'⟩ := hx.two
    exact ⟨_, _, by rw [hv.int, hv'.int], k _ _ _ R sameR sameR (Has.int_iff.mpr rfl)⟩
  · cases hφ
def strD : List D → Option D
  | [.int i] => if i.natAbs.log2 < 1920 then some (.str (toString i)) else none
  | _ => none
theorem fnR_str : FnR X (fun xs H Q => ∃ i, xs = [.int i] ∧ i.natAbs.log2 < 1920 ∧ Q (.str (toString i)) H) strD := by
  intro σ ρ H₀ Hf₀ H Hf xs ds d Q R hx hφ k
  unfold strD at hφ
  split at hφ
  · split at hφ
    · cases hφ
      obtain ⟨v, rfl, hv⟩ := hx.one
      exact ⟨_, by rw [hv.int], by assumption, k _ _ _ R sameR sameR (Has.str_iff.mpr rfl)⟩
    · cases hφ
  · cases hφ
def seqF (F G : FS) : FS := fun ρ => (F ρ).bind fun o => match o with
  | .nx ρ' => G ρ'
  | o => some o
def nxF : FS := fun ρ => some (.nx ρ)
variable {st : Stmt} {sts rest : List Stmt} {F G : FS}
theorem bindO_some {α : Type} {F : FS} {k : Out → Option α} {ρ : Rho} {r : α} (h : (F ρ).bind k = some r) : ∃ b, F ρ = some b ∧ k b = some r := by
  cases hf : F ρ with
  | none => rw [hf] at h; cases h
  | some x => rw [hf] at h; exact ⟨x, rfl, h⟩
theorem dss_nil : DSs X [] nxF := pss_imp pss_nil fun D' σ H ⟨H₀, Hf₀, ρ, Hf, o, R, q, k⟩ => by cases q; exact k _ _ _ R sameR
theorem dss_cons (h1 : DS X st F) (h2 : DSs X rest G) : DSs X (st :: rest) (seqF F G) := pss_imp (pss_cons h1 h2) fun D' σ H ⟨H₀, Hf₀, ρ, Hf, o, R, q, k⟩ => by
  obtain ⟨o1, e1, e2⟩ := bindO_some q
  refine ⟨H₀, Hf₀, ρ, Hf, o1, R, e1, ?_⟩
  cases o1 with
  | nx ρ' =>
    intro σ' H' Hf' R' s'
    refine ⟨H₀, Hf₀, ρ', Hf', o, R', e2, ?_⟩
    cases o with
    | nx _ => exact fun σ2 H2 Hf2 R2 s2 => k _ _ _ R2 (s'.trans s2)
    | bk _ => exact fun σ2 H2 Hf2 R2 s2 => k _ _ _ R2 (s'.trans s2)
    | ct _ => exact fun σ2 H2 Hf2 R2 s2 => k _ _ _ R2 (s'.trans s2)
    | rt _ => exact fun v σ2 ρ2 H2 Hf2 R2 s2 h2 => k _ _ _ _ _ R2 (s'.trans s2) h2
  | bk _ => cases e2; exact k
  | ct _ => cases e2; exact k
  | rt _ => cases e2; exact k
theorem dss_one (h1 : DS X st F) : DSs X [st] F := pss_one h1
def neverF : FS := fun _ => none
theorem ds_never : DS X st neverF := ps_imp ps_never fun D' σ H ⟨H₀, Hf₀, ρ, Hf, o, R, q, k⟩ => by cases q
def retF (f : FE) : FS := fun ρ => (f ρ).bind fun d => some (.rt d)
theorem ds_ret (he : DE X e f) : DS X (.Return (some e) pos) (retF f) := ps_imp (ps_ret he) fun D' σ H ⟨H₀, Hf₀, ρ, Hf, o, R, q, k⟩ => by
  obtain ⟨d, e1, e2⟩ := bindV_some q
  cases e2
  exact ⟨H₀, Hf₀, ρ, Hf, d, R, e1, fun v H1 Hf1 R1 s1 t1 h1 => k v σ ρ H1 Hf1 R1 t1 h1⟩
def dropF (f : FE) : FS := fun ρ => (f ρ).bind fun _ => some (.nx ρ)
theorem ds_expr (he : DE X e f) (hs : swapsWith e none pos.line X.env = pure false := by rfl) : DS X (.Expr e pos) (dropF f) := ps_imp (ps_expr he hs) fun D' σ H ⟨H₀, Hf₀, ρ, Hf, o, R, q, k⟩ => by
  obtain ⟨d, e1, e2⟩ := bindV_some q
  cases e2
  exact ⟨H₀, Hf₀, ρ, Hf, d, R, e1, fun v H1 Hf1 R1 s1 t1 h1 => k _ _ _ R1 t1⟩
def ifS (c : FT) (F G : FS) : FS := fun ρ => (c ρ).bind fun b => if b = true then F ρ else G ρ
theorem EndO.mono {K : PySem.W.Frag} {H₀ Hf₀ Hf Hf1 : Hp} {D' : Ends} {o : Out} (k : EndO K H₀ Hf₀ Hf D' o) (t : Same Hf Hf1) : EndO K H₀ Hf₀ Hf1 D' o := by
  cases o with
  | nx _ => exact fun σ2 H2 Hf2 R2 s2 => k _ _ _ R2 (t.trans s2)
  | bk _ => exact fun σ2 H2 Hf2 R2 s2 => k _ _ _ R2 (t.trans s2)
  | ct _ => exact fun σ2 H2 Hf2 R2 s2 => k _ _ _ R2 (t.trans s2)
  | rt _ => exact fun v σ2 ρ2 H2 Hf2 R2 s2 h2 => k _ _ _ _ _ R2 (t.trans s2) h2
theorem ds_if {a b : List Stmt} (hc : DT X c ft) (ha : DSs X a F) (hb : DSs X b G) : DS X (.If c a b pos) (ifS ft F G) := ps_imp (ps_if hc ha hb) fun D' σ H ⟨H₀, Hf₀, ρ, Hf, o, R, q, k⟩ => by
  obtain ⟨x, e1, e2⟩ := bindT_some q
  refine ⟨H₀, Hf₀, ρ, Hf, x, R, e1, fun H1 Hf1 R1 s1 t1 => ?_⟩
  cases x with
  | true => exact iteT ⟨H₀, Hf₀, ρ, Hf1, o, R1, e2, k.mono t1⟩
  | false => exact iteF ⟨H₀, Hf₀, ρ, Hf1, o, R1, e2, k.mono t1⟩
def asgF (i : Nat) (f : FE) : FS := fun ρ => (f ρ).bind fun d => some (.nx (ρ.set i (.fr d)))
theorem ds_asg {x : Str} {pos' : Pos} (i : Nat) (hN : X.N.Nodup) (he : DE X e f) (hi : X.N[i]? = some x := by rfl) (hx : Loc X.env.scope x := by first | exact Or.inl rfl | exact Or.inr rfl) (hs : swapsWith e (some (.Name x pos')) pos.line X.env = pure false := by rfl)
    (hf : X.fn x = true ∨ X.env.scope.names.lookup x = some .local := by first | exact .inl rfl | exact .inr rfl | assumption) : DS X (.Assign [.Name x pos'] e pos) (asgF i f) :=
  ps_imp (ps_set hN hi hx he hs hf) fun D' σ H ⟨H₀, Hf₀, ρ, Hf, o, R, q, k⟩ => by
    obtain ⟨d, e1, e2⟩ := bindV_some q
    cases e2
    exact ⟨H₀, Hf₀, ρ, Hf, d, R, e1, fun v H1 Hf1 R1 s1 t1 h1 => k _ _ _ (R1.set i h1) t1⟩
def asgN (i : Nat) (f : FA) : FS := fun ρ => (f ρ).bind fun ds => some (.nx (ρ.set i (.ol ds)))
theorem ds_asgN {x : Str} {pos' : Pos} (i : Nat) (hN : X.N.Nodup) (he : DN X e fa) (hi : X.N[i]? = some x := by rfl) (hx : Loc X.env.scope x := by first | exact Or.inl rfl | exact Or.inr rfl) (hs : swapsWith e (some (.Name x pos')) pos.line X.env = pure false := by rfl)
    (hf : X.fn x = true ∨ X.env.scope.names.lookup x = some .local := by first | exact .inl rfl | exact .inr rfl | assumption) : DS X (.Assign [.Name x pos'] e pos) (asgN i fa) :=
  ps_imp (ps_set hN hi hx he hs hf) fun D' σ H ⟨H₀, Hf₀, ρ, Hf, o, R, q, k⟩ => by
    obtain ⟨d, e1, e2⟩ := bindA_some q
    cases e2
    refine ⟨H₀, Hf₀, ρ, Hf, d, R, e1, fun a xs H1 Hf1 R1 s1 t1 h1 ha hn hh => k _ _ _ (R1.setOwn i rfl ⟨xs, ha, h1⟩ hn (R.s0.free hh) ?_) t1⟩
    intro j sl z o z'
    obtain ⟨b, p1, p2, _⟩ := R.ow j sl z o
    rw [p1] at z'; cases z'
    obtain ⟨ob, q'⟩ := p2.there o
    rw [q'] at hh; cases hh
def frz (i : Nat) (ρ : Rho) : Option Rho := match ρ[i]? with
  | some (.ol ds) => some (ρ.set i (.fr (.lst ds)))
  | some (.fr _) => some ρ
  | _ => none
def frzF (i : Nat) (F : FS) : FS := fun ρ => (frz i ρ).bind F
theorem dss_frz (i : Nat) (h : DSs X sts F) : DSs X sts (frzF i F) := pss_imp h fun D' σ H ⟨H₀, Hf₀, ρ, Hf, o, R, q, k⟩ => by
  unfold frzF frz at q
  split at q
  · rename_i ds e
    obtain ⟨Hf', sm, R'⟩ := R.freeze e
    exact ⟨H₀, Hf₀, _, Hf', o, R', q, k.mono sm⟩
  · exact ⟨H₀, Hf₀, _, Hf, o, R, q, k⟩
  · cases q
abbrev FG := D → Rho → Option Rho
def tG (K : PySem.W.Frag) (γ : FG) : TG := fun v σ H Q => ∃ H₀ Hf₀ ρ Hf d ρ', Rep K H₀ Hf₀ σ ρ H Hf ∧ Has K Hf d v ∧ γ d ρ = some ρ' ∧ ∀ σ' H' Hf', Rep K H₀ Hf₀ σ' ρ' H' Hf' → Same Hf Hf' → Q σ' H'
abbrev FGs := List D → Rho → Option Rho
def tGs (K : PySem.W.Frag) (γ : FGs) : TGs := fun vs σ H Q => ∃ H₀ Hf₀ ρ Hf ds ρ', Rep K H₀ Hf₀ σ ρ H Hf ∧ HasL K Hf ds vs ∧ γ ds ρ = some ρ' ∧ ∀ σ' H' Hf', Rep K H₀ Hf₀ σ' ρ' H' Hf' → Same Hf Hf' → Q σ' H'
def DG (X : Cx) (tg : Expr) (γ : FG) : Prop := PG X tg (tG X.K γ)
def DGs (X : Cx) (ts : List Expr) (γ : FGs) : Prop := PGs X ts (tGs X.K γ)
theorem pg_imp {tg : Expr} {t t' : TG} (h : PG X tg t) (i : ∀ v σ H Q, t' v σ H Q → t v σ H Q) : PG X tg t' := fun pins s σ H v u Q I r hw => h pins s σ H v u Q I r (i _ _ _ _ hw)
theorem pgs_imp {ts : List Expr} {t t' : TGs} (h : PGs X ts t) (i : ∀ v σ H Q, t' v σ H Q → t v σ H Q) : PGs X ts t' := fun pins s σ H v u Q I r hw => h pins s σ H v u Q I r (i _ _ _ _ hw)
def nameG (i : Nat) : FG := fun d ρ => some (ρ.set i (.fr d))
theorem dg_name {x : Str} (i : Nat) (hN : X.N.Nodup) (hi : X.N[i]? = some x := by rfl) (hx : Loc X.env.scope x := by first | exact Or.inl rfl | exact Or.inr rfl) (hf : X.fn x = true ∨ X.env.scope.names.lookup x = some .local := by first | exact .inl rfl | exact .inr rfl | assumption) : DG X (.Name x pos) (nameG i) :=
  pg_imp (pg_name hN hi hx hf) fun v σ H Q ⟨H₀, Hf₀, ρ, Hf, d, ρ', R, h, q, k⟩ => by
    cases q
    exact k _ _ _ (R.set i h) sameR
def nilG : FGs := fun ds ρ => match ds with
  | [] => some ρ
  | _ => none
def consG (γ : FG) (δ : FGs) : FGs := fun ds ρ => match ds with
  | d :: r => (γ d ρ).bind fun ρ' => δ r ρ'
  | _ => none
theorem dgs_nil : DGs X [] nilG := pgs_imp pgs_nil fun v σ H Q ⟨H₀, Hf₀, ρ, Hf, ds, ρ', R, h, q, k⟩ => by
  cases ds with
  | nil => cases q; exact ⟨HasL.nil_iff.mp h, k _ _ _ R sameR⟩
  | cons _ _ => cases q
theorem dgs_cons {γ : FG} {δ : FGs} (h1 : DG X e γ) (h2 : DGs X es δ) (hs : (assignEach (e :: es) X.env).map (·.2) = assign e X.env :: (assignEach es X.env).map (·.2) := by rfl) : DGs X (e :: es) (consG γ δ) :=
  pgs_imp (pgs_cons h1 h2 hs) fun v σ H Q ⟨H₀, Hf₀, ρ, Hf, ds, ρ', R, h, q, k⟩ => by
    cases ds with
    | nil => cases q
    | cons d r =>
      obtain ⟨x, xr, rfl, hx, hr⟩ := HasL.cons_iff.mp h
      have q : (γ d ρ).bind (fun ρ' => δ r ρ') = some ρ' := q
      cases e1 : γ d ρ with
      | none => rw [e1] at q; cases q
      | some ρ1 =>
        rw [e1] at q
        exact ⟨x, xr, rfl, H₀, Hf₀, ρ, Hf, d, ρ1, R, hx, e1, fun σ1 H1 Hf1 R1 s1 => ⟨H₀, Hf₀, ρ1, Hf1, r, ρ', R1, hr.mono s1, q, fun σ2 H2 Hf2 R2 s2 => k _ _ _ R2 (s1.trans s2)⟩⟩
def tupG (n : Nat) (δ : FGs) : FG := fun d ρ => match d with
  | .tup ds => if ds.length = n then δ ds ρ else none
  | _ => none
theorem dg_tup {kx n : Nat} {δ : FGs} (hc : X.calm = true) (h : DGs X es δ) (hn : (assignEach es X.env).length = n := by rfl) (hst : (assignEach es X.env).findIdx? (·.1) = none := by rfl) : DG X (.Tuple es kx pos) (tupG n δ) :=
  pg_imp (pg_tup hc h hn hst) fun v σ H Q ⟨H₀, Hf₀, ρ, Hf, d, ρ', R, h, q, k⟩ => by
    unfold tupG at q
    split at q
    · split at q
      · rename_i ds hl
        obtain ⟨a, xs, rfl, qa, la⟩ := Has.tup_iff.mp h
        exact ⟨a, xs, rfl, sameT R.sf qa, by rw [la.length]; exact hl, H₀, Hf₀, ρ, Hf, ds, ρ', R, la, q, k⟩
      · cases q
    · cases q
end
end FL
set_option Elab.async false
set_option linter.all false
set_option maxRecDepth 100000
set_option maxHeartbeats 4000000
namespace FL
open PySem PySem.Spec PyProof.Rows L2
def loopF (γ : FG) (B : FS) : List D → Rho → Option Out
  | [], ρ => some (.nx ρ)
  | d :: ds, ρ => (γ d ρ).bind fun ρ1 => (B ρ1).bind fun o => match o with
    | .nx ρ2 => loopF γ B ds ρ2
    | .ct ρ2 => loopF γ B ds ρ2
    | .bk ρ2 => some (.nx ρ2)
    | .rt d => some (.rt d)
def forF (fi : FA) (γ : FG) (B : FS) : FS := fun ρ => (fi ρ).bind fun ds => loopF γ B ds ρ
structure Grows (H Hf H' Hf' : Hp) : Prop where
  h : Same H H'
  f : Same Hf Hf'
  fh : Same Hf' H'
  new : ∀ b o, Hf' b = some o → Hf b = some o ∨ H b = none ∨ Tp o
theorem Rep.grows {K : PySem.W.Frag} {H₀ Hf₀ : Hp} {σ : St} {ρ : Rho} {H Hf H' Hf' : Hp} (R : Rep K H₀ Hf₀ σ ρ H Hf) (g : Grows H Hf H' Hf') : Rep K H₀ Hf₀ σ ρ H' Hf' := R.grow g.h g.f g.fh g.new
theorem Grows.refl {H Hf : Hp} (h : Same Hf H) : Grows H Hf H Hf := ⟨sameR, sameR, h, fun _ _ e => .inl e⟩
def Walks (K : PySem.W.Frag) (Hf : Hp) (J : It) (ds : List D) : Prop :=
  ∀ (H' Hf' : Hp), Same Hf Hf' → Same Hf' H' → ∀ i : Nat, (∀ d, ds[i]? = some d → J.go i H' ∧ ∀ x H2, J.yld i H' x H2 → ∃ Hf2, Grows H' Hf' H2 Hf2 ∧ Has K Hf2 d x) ∧ (ds.length ≤ i → J.stop i H')
def tI (K : PySem.W.Frag) (fi : FA) : TI := fun σ H R' => ∃ H₀ Hf₀ ρ Hf ds, Rep K H₀ Hf₀ σ ρ H Hf ∧ fi ρ = some ds ∧ ∀ J H' Hf', Rep K H₀ Hf₀ σ ρ H' Hf' → Same H H' → Same Hf Hf' → Walks K Hf' J ds → R' J H'
def DI (X : Cx) (tg iter : Expr) (fi : FA) : Prop := PI X tg iter (tI X.K fi)
section
variable {X : Cx} {e a b c tg iter : Expr} {es : List Expr} {f g h : FE} {fa ga fi : FA} {ft gt : FT} {pos : Pos} {t t' : TE} {kk : Nat} {st : Stmt} {sts rest body : List Stmt} {F G B : FS} {γ : FG}
theorem pi_imp {t t' : TI} (h : PI X tg iter t) (i : ∀ σ H R, t' σ H R → t σ H R) : PI X tg iter t' := fun pins s σ H R I hw => h pins s σ H R I (i _ _ _ hw)
theorem ds_for (hp : PassesOwn (model X.prog X.w) X.A X.env X.xe) (hc : X.calm = true) (hi : DI X tg iter fi) (hg : DG X tg γ) (hb : DSs X body B)
    (hs : ∀ x, foldedSetIterable iter X.env x = pure x := by intro _; rfl) : DS X (.For tg iter body [] pos) (forF fi γ B) :=
  ps_imp (ps_for hp hc hi hg hb hs) fun D' σ H ⟨H₀, Hf₀, ρ, Hf, o, R, q, k⟩ => by
    obtain ⟨ds, e1, e2⟩ := bindA_some q
    refine ⟨H₀, Hf₀, ρ, Hf, ds, R, e1, fun J H1 Hf1 R1 _ t1 wk => ?_⟩
    have k1 := k.mono t1
    refine ⟨fun i m σ H => m = ds.length - i ∧ i ≤ ds.length ∧ ∃ ρ Hf', Rep X.K H₀ Hf₀ σ ρ H Hf' ∧ Same Hf1 Hf' ∧ loopF γ B (ds.drop i) ρ = some o, ⟨ds.length, by simp, Nat.zero_le _, ρ, Hf1, R1, sameR, by simpa using e2⟩, ?_⟩
    rintro i m σ2 H2 ⟨rfl, hi, ρ2, Hf2, R2, t2, el⟩
    obtain ⟨w1, w2⟩ := wk H2 Hf2 t2 R2.sf i
    by_cases hil : i < ds.length
    · right
      have hd : ds[i]? = some ds[i] := List.getElem?_eq_getElem hil
      obtain ⟨go, yld⟩ := w1 _ hd
      refine ⟨go, ?_⟩
      rw [List.drop_eq_getElem_cons hil] at el
      unfold loopF at el
      cases eg : γ ds[i] ρ2 with
      | none => rw [eg] at el; cases el
      | some ρ3 =>
        rw [eg] at el
        simp only [Option.bind_some] at el
        obtain ⟨o1, eb, eo⟩ := bindO_some el
        refine ⟨fun σ' H' => ∃ ρ' Hf', Rep X.K H₀ Hf₀ σ' ρ' H' Hf' ∧ Same Hf1 Hf' ∧ loopF γ B (ds.drop (i + 1)) ρ' = some o, ?_, ?_⟩
        · rintro σ' H' ⟨ρ', Hf', R', t', e'⟩
          exact ⟨ds.length - (i + 1), by omega, rfl, hil, ρ', Hf', R', t', e'⟩
        · intro x H3 hy
          obtain ⟨Hf3, gr, hx⟩ := yld x H3 hy
          refine ⟨H₀, Hf₀, ρ2, Hf3, ds[i], ρ3, R2.grows gr, hx, eg, fun σ4 H4 Hf4 R4 t4 => ?_⟩
          refine ⟨H₀, Hf₀, ρ3, Hf4, o1, R4, eb, ?_⟩
          have tt : Same Hf1 Hf4 := (t2.trans gr.f).trans t4
          cases o1 with
          | nx ρ5 => exact fun σ5 H5 Hf5 R5 t5 => ⟨ρ5, Hf5, R5, tt.trans t5, eo⟩
          | ct ρ5 => exact fun σ5 H5 Hf5 R5 t5 => ⟨ρ5, Hf5, R5, tt.trans t5, eo⟩
          | bk ρ5 => cases eo; exact fun σ5 H5 Hf5 R5 t5 => k1 _ _ _ R5 (tt.trans t5)
          | rt d => cases eo; exact fun v σ5 ρ5 H5 Hf5 R5 t5 h5 => k1 _ _ _ _ _ R5 (tt.trans t5) h5
    · left
      have : ds.drop i = [] := List.drop_eq_nil_of_le (by omega)
      rw [this] at el
      cases el
      exact ⟨w2 (by omega), k1 _ _ _ R2 t2⟩
def rangeD (lo hi : Int) : List D := (List.range (hi - lo).toNat).map fun (k : Nat) => D.int (lo + (k : Int))
noncomputable def rangeA : List D → Option (List D)
  | [.int j] => @ite _ (-(2 ^ 62) ≤ j ∧ j < 2 ^ 62) (Classical.propDecidable _) (some (rangeD 0 j)) none
  | _ => none
noncomputable def rng1 (fa : FA) : FA := fun ρ => (fa ρ).bind rangeA
theorem walks_range {K : PySem.W.Frag} {Hf : Hp} {lo : Int} {n : Nat} : Walks K Hf (Itr lo n) ((List.range n).map fun (k : Nat) => D.int (lo + (k : Int))) := fun H2 Hf2 t2 sf2 i => by
  refine ⟨fun d hd => ?_, fun hle => ?_⟩
  · rw [List.getElem?_map] at hd
    cases e : (List.range n)[i]? with
    | none => rw [e] at hd; cases hd
    | some j =>
      rw [e] at hd
      cases hd
      obtain ⟨h1, h2⟩ := List.getElem?_eq_some_iff.mp e
      simp at h1 h2
      subst h2
      refine ⟨h1, fun x H3 hy => ?_⟩
      obtain ⟨rfl, rfl⟩ := hy
      exact ⟨Hf2, Grows.refl sf2, Has.int_iff.mpr rfl⟩
  · show n ≤ i
    simpa using hle
theorem di_range1 {p pos : Pos} (hg : Gl X "range") (hm : X.mg "range" = none) (ha : DAR X [a] fa) (hs : starEach [a] X.env = [(false, eval a X.env)] := by rfl) : DI X tg (.Call (.Name "range" p) [a] [] pos) (rng1 fa) :=
  pi_imp (pi_range1 hg hm ha hs) fun σ H R' ⟨H₀, Hf₀, ρ, Hf, ds, R, q, k⟩ => by
    obtain ⟨l, e1, e2⟩ := bindA_some q
    unfold rangeA at e2
    split at e2
    · split at e2
      · cases e2
        rename_i j hj
        refine ⟨H₀, Hf₀, ρ, Hf, _, R, e1, fun vs H1 Hf1 R1 s1 t1 h1 => ?_⟩
        obtain ⟨v, rfl, hv⟩ := h1.one
        refine ⟨j, by rw [hv.int], hj.1, hj.2, k _ _ _ R1 s1 t1 ?_⟩
        have := walks_range (K := X.K) (Hf := Hf1) (lo := 0) (n := j.toNat)
        unfold rangeD
        rw [Int.sub_zero]
        exact this
      · cases e2
    · cases e2
def appendF (i : Nat) (f : FE) : FS := fun ρ => (f ρ).bind fun d => match ρ[i]? with
  | some (.ol ds) => if ds.length < sizeLine then some (.nx (ρ.set i (.ol (ds ++ [d])))) else none
  | _ => none
theorem ds_append {x : Str} {p1 apos cpos pos : Pos} (i : Nat) (he : DE X e f) (hN : X.N[i]? = some x := by rfl) (hv : Vis X.env.scope x := by first | exact Or.inl rfl | exact Or.inr (Or.inl rfl) | exact Or.inr (Or.inr rfl))
    (hd : (x == ("__debug__" : Str)) = false := by decide) (hcd : (x == ("__classdict__" : Str)) = false := by decide)
    (hbase : attributeBase (.Name x p1) "append" X.env (eval (.Name x p1) X.env) = eval (.Name x p1) X.env := by rfl)
    (hfew : ((backTo cpos (starEach [e] X.env)).all (fun x => !x.1) && (backToKw cpos (keywordEach [] X.env)).all (fun x => x.1.isSome)
      && decide (([e] : List Expr).length + ([] : List Keyword).length + (if ([] : List Keyword).isEmpty then 0 else 1) < 30)) = true := by rfl)
    (hline : (apos.endLine == cpos.line) = true := by rfl) (hst : starEach [e] X.env = (false, eval e X.env) :: starEach [] X.env := by rfl) (hplain : (backTo cpos (starEach [] X.env)).any (·.1) = false := by rfl)
    (hs : swapsWith (.Call (.Attribute (.Name x p1) "append" apos) [e] [] cpos) none pos.line X.env = pure false := by rfl) :
    DS X (.Expr (.Call (.Attribute (.Name x p1) "append" apos) [e] [] cpos) pos) (appendF i f) :=
  ps_imp (ps_expr (pe_bm PySem.F.plainAttrs_list PySem.F.slot_list_append PySem.F.type_list_append mt_append (pe_var hN hv hd hcd) (pa_cons he pa_nil hst) hbase hfew hline hst hplain) hs) fun D' σ H ⟨H₀, Hf₀, ρ, Hf, o, R, q, k⟩ => by
    obtain ⟨d, e1, e2⟩ := bindV_some q
    split at e2
    · split at e2
      · cases e2
        rename_i ds el hz
        obtain ⟨a, p1, ⟨xs, p2, p3⟩, p4, p5⟩ := R.ow i _ el rfl
        refine ⟨_, p1, .inl ⟨rfl, xs, SqL.of p2⟩, H₀, Hf₀, ρ, Hf, d, R, e1, fun v H1 Hf1 R1 s1 t1 h1 => ?_⟩
        obtain ⟨a', r1, ⟨ys, r2, r3⟩, r4, r5⟩ := R1.ow i _ el rfl
        rw [p1] at r1; cases r1
        refine ⟨a, ys, v, rfl, rfl, r2, by rw [r3.length]; exact hz, ?_⟩
        exact k _ _ _ (R1.updOwn el rfl p1 rfl ⟨_, upd_same, r3.append (.cons h1 .nil)⟩) t1
      · cases e2
    · cases e2
end
def spF (K : PySem.W.Frag) (n : Nat) (g : List D → Option D) : Sp := fun vs H Q _ => ∃ Hf ds d, Same Hf H ∧ HasL K Hf ds vs ∧ ds.length = n ∧ g ds = some d ∧ ∀ v H' Hf', Grows H Hf H' Hf' → Has K Hf' d v → Q v H'
def startR (n : Nat) (ds : List D) : Rho := ds.map Slot.fr ++ List.replicate (n - ds.length) Slot.no
def outD (o : Option Out) : Option D := match o with
  | some (.rt d) => some d
  | some (.nx _) => some .non
  | _ => none
def denF (m : Nat) (F : FS) : List D → Option D := fun ds => outD (F (startR m ds))
theorem rep_start {K : PySem.W.Frag} {N : List Str} {H Hf : Hp} {ds : List D} {vs : List V} (sf : Same Hf H) (h : HasL K Hf ds vs) : Rep K H Hf (L2.start N vs) (startR N.length ds) H Hf where
  s0 := sameR
  sf := sf
  nf := fun b o e => .inl e
  f0 := sameR
  len := by unfold startR L2.start; simp [h.length]
  fr := fun i d e => by
    unfold startR at e
    unfold L2.start
    by_cases hi : i < ds.length
    · rw [List.getElem?_append_left (by simpa using hi)] at e
      rw [List.getElem?_map] at e
      cases e1 : ds[i]? with
      | none => rw [e1] at e; cases e
      | some d' =>
        rw [e1] at e; cases e
        obtain ⟨v, e2, e3⟩ := h.get e1
        refine ⟨v, ?_, e3⟩
        have hl := h.length
        rw [List.getElem?_append_left (by simp; omega), List.getElem?_map, e2]
        rfl
    · rw [List.getElem?_append_right (by simpa using hi), List.getElem?_replicate] at e
      split at e <;> cases e
  ow := fun i sl e o => by
    unfold startR at e
    by_cases hi : i < ds.length
    · rw [List.getElem?_append_left (by simpa using hi), List.getElem?_map] at e
      cases e1 : ds[i]? with
      | none => rw [e1] at e; cases e
      | some d' => rw [e1] at e; cases e; cases o
    · rw [List.getElem?_append_right (by simpa using hi), List.getElem?_replicate] at e
      split at e
      · cases e; cases o
      · cases e
  inj := fun i j sl sl' a e o e' o' _ _ => by
    unfold startR at e
    by_cases hi : i < ds.length
    · rw [List.getElem?_append_left (by simpa using hi), List.getElem?_map] at e
      cases e1 : ds[i]? with
      | none => rw [e1] at e; cases e
      | some d' => rw [e1] at e; cases e; cases o
    · rw [List.getElem?_append_right (by simpa using hi), List.getElem?_replicate] at e
      split at e
      · cases e; cases o
      · cases e
section
variable {P : Program} {w : World} {K : PySem.W.Frag} {mg : Str → Option Value} {base : Heap}
theorem fn_den {x qual : Str} {st : Stmt} {f : Addr} {fd : FuncData} {N ps : List Str} {k m n : Nat} {F : FS} (hm : N.length = m) (hn : ps.length = n) (Fn : Fun K x qual st f fd) (S : FnScope N ps (defScope st))
    (body : ∀ (cdv : Value) (A : Around) (outer : List Env) (s : Shared) (H : Hp) (E : XK), Room k (A.deeper (envOfC qual (defScope st) s.heap.objs.size f cdv)) →
      DSs (cxOf CX0 P w K mg base N qual (defScope st) f cdv A outer s H E).nox (defBody st) F) :
    FnOk P w K mg base CX0 (k + 1) f fd ps (spF K n (denF m F)) := by
  subst hm hn
  refine Fn.ok S (fun vs H Q E h => ?_) (fun cdv A outer s H vs Q E hr h => ?_)
  · obtain ⟨Hf, ds, d, _, h1, h2, _⟩ := h
    rw [h1.length]; exact h2
  · obtain ⟨Hf, ds, d, sf, h1, h2, h3, q⟩ := h
    refine ⟨_, body cdv A outer s H E hr, ?_⟩
    unfold denF outD at h3
    have R := rep_start (N := N) sf h1
    have fin : ∀ (v : V) (σ' : St) (ρ' : Rho) (H' Hf' : Hp), Rep K H Hf σ' ρ' H' Hf' → Has K Hf' d v → Q v H' := fun v σ' ρ' H' Hf' R' hv => q v H' Hf' ⟨R'.s0, R'.f0, R'.sf, R'.nf⟩ hv
    split at h3
    · cases h3
      rename_i d e
      exact ⟨H, Hf, _, Hf, _, R, e, fun v σ' ρ' H' Hf' R' _ hv => fin v σ' ρ' H' Hf' R' hv⟩
    · cases h3
      rename_i ρ' e
      exact ⟨H, Hf, _, Hf, _, R, e, fun σ' H' Hf' R' _ => fin _ σ' ρ' H' Hf' R' (Has.non_iff.mpr rfl)⟩
    · cases h3
end
section
variable {X : Cx} {e : Expr} {es : List Expr} {fa : FA} {pos : Pos}
theorem d_call {CX : CXT} {k : Nat} {f : Addr} {fd : FuncData} {ps : List Str} {g : List D → Option D} {E : XK} {x : Str} {p : Pos} {n : Nat} (Fn : FnOk X.prog X.w X.K X.mg X.base CX k f fd ps (spF X.K n g)) (hr : Room k X.A) (hg : Gl X x) (hm : X.mg x = some (.ref f))
    (hk : PySem.W.keepIn X.K (.ref f) = true) (hb : Binds X.K fd ps []) (hx : Passes CX X E) (ha : DA X (e :: es) fa) (hn : ∀ ρ ds, fa ρ = some ds → ds.length = n)
    (hdb : (x == ("__debug__" : Str)) = false := by decide) (he : starEach (e :: es) X.env = (false, eval e X.env) :: starEach es X.env := by rfl) (hpl : (backTo pos (starEach es X.env)).any (·.1) = false := by rfl) :
    DE X (.Call (.Name x p) (e :: es) [] pos) (appF g fa) :=
  pe_imp (pe_call Fn hr hg hm hk hb .nil hx ha hdb he hpl) fun σ H Q ⟨H₀, Hf₀, ρ, Hf, d, R, q, k⟩ => by
    obtain ⟨ds, e1, e2⟩ := bindA_some q
    refine ⟨H₀, Hf₀, ρ, Hf, ds, R, e1, fun vs H1 Hf1 R1 s1 t1 h1 => ?_⟩
    show spF X.K n g (vs ++ []) H1 Q E
    rw [List.append_nil]
    exact ⟨Hf1, ds, d, R1.sf, h1, hn ρ ds e1, e2, fun v H2 Hf2 gr hv => k _ _ _ (R1.grows gr) (s1.trans gr.h) (t1.trans gr.f) hv⟩
end
theorem lenA0 : ∀ (ρ : Rho) (ds : List D), nilA ρ = some ds → ds.length = 0 := fun ρ ds h => by cases h; rfl
theorem lenAS {f : FE} {g : FA} {n : Nat} (h : ∀ (ρ : Rho) (ds : List D), g ρ = some ds → ds.length = n) : ∀ (ρ : Rho) (ds : List D), consA f g ρ = some ds → ds.length = n + 1 := fun ρ ds q => by
  obtain ⟨x, xs, _, e2, rfl⟩ := consA_some q
  simp [h ρ xs e2]
theorem law_sp {K : PySem.W.Frag} {g : List D → Option D} {H : Hp} {a : Addr} {ns : List Int} (hq : SqL K H a (ns.map V.int)) (hg : g [.lst (ns.map D.int)] = some (.bl true)) : spF K 1 g [.ref a] H (fun v _ => v = .bl true) fun _ _ _ => False :=
  ⟨H, [.lst (ns.map D.int)], .bl true, sameR, .cons (Has.lst_iff.mpr ⟨a, _, rfl, hq, HasL.ints ns⟩) .nil, rfl, hg, fun v H' Hf' _ hv => Has.bl_iff.mp hv⟩
end FL
set_option Elab.async false
set_option linter.all false
set_option maxRecDepth 100000
set_option maxHeartbeats 4000000
namespace FL
open PySem PySem.Spec PyProof.Rows L2
def tyN : D → String
  | .non => "NoneType"
  | .bl _ => "bool"
  | .int _ => "int"
  | .str _ => "str"
  | .tup _ => "tuple"
  | .lst _ => "list"
def subTy (t T : String) : Bool := t == T || (t == "bool" && T == "int")
def isTy (T : String) (d : D) : Option D := some (.bl (subTy (tyN d) T))
def TyOk (T : String) : Prop := ∀ (K : PySem.W.Frag) (d : D), PySem.W.kitOne K (.type (tyN d)) (.type T) = some (subTy (tyN d) T)
theorem ty_int : TyOk "int" := fun K d => by cases d <;> kernel_rfl
theorem ty_bool : TyOk "bool" := fun K d => by cases d <;> kernel_rfl
theorem ty_tuple : TyOk "tuple" := fun K d => by cases d <;> kernel_rfl
theorem ty_list : TyOk "list" := fun K d => by cases d <;> kernel_rfl
section
variable {X : Cx} {pins : List (Addr × Obj)} {σ : St} {H : Hp} {s : Shared} {A : Around} {E : Value → Shared → Prop} {Q : Value → Shared → Prop} {c : Value} {b : Bool}
theorem isinst_d {d : D} {v : V} {u : Value} (I : Inv X pins σ H s) (hd : Has X.K H d v) (rx : RelV v u) (e : PySem.W.kitOne X.K (.type (tyN d)) c = some b) (h : ∀ tk, Q (.bool b) { s with toks := tk }) :
    wpAny (model X.prog X.w) A (call (.builtin "isinstance") [u, c]) Q E s := by
  cases d with
  | non => rw [Has.non_iff] at hd; subst hd; cases rx; exact PySem.W.kia_one PySem.W.kitx_none I.kIn True.intro e (fun z => nomatch z) h
  | bl y => rw [Has.bl_iff] at hd; subst hd; cases rx; exact PySem.W.kia_one PySem.W.kitx_bool I.kIn True.intro e (fun z => nomatch z) h
  | int y => rw [Has.int_iff] at hd; subst hd; obtain ⟨t, rfl⟩ := rx; exact PySem.W.kia_one PySem.W.kitx_int I.kIn True.intro e (fun z => nomatch z) h
  | str y => rw [Has.str_iff] at hd; subst hd; obtain ⟨t, rfl⟩ := rx; exact PySem.W.kia_one PySem.W.kitx_str I.kIn True.intro e (fun z => nomatch z) h
  | tup ds =>
    obtain ⟨a, xs, rfl, q, _⟩ := Has.tup_iff.mp hd
    cases rx
    obtain ⟨its, _, ⟨o, h1, h2, _⟩, _⟩ := I.tuple q
    exact PySem.W.kia_one PySem.W.kitx_tuple I.kIn ⟨o, h1, h2⟩ e (fun z => nomatch z) h
  | lst ds =>
    obtain ⟨a, xs, rfl, q, _⟩ := Has.lst_iff.mp hd
    cases rx
    obtain ⟨its, _, ⟨o, n, h1, h2, _⟩, _⟩ := I.list q
    exact PySem.W.kia_one PySem.W.kitx_list I.kIn ⟨o, h1, h2⟩ e (fun z => nomatch z) h
end
section
variable {X : Cx} {e a b c : Expr} {es : List Expr} {f g h : FE} {fa ga : FA} {pos : Pos}
theorem call_isTy {T : String} (hT : TyOk T) : CallR X (.builtin "isinstance") (fun xs H Q => ∃ v d, xs = [v, .ty T] ∧ Has X.K H d v ∧ Q (.bl (subTy (tyN d) T)) H) := by
  intro pins s σ H xs us Q I r h
  obtain ⟨v, d, rfl, hd, q⟩ := h
  obtain ⟨u, w', rfl, rx, ry⟩ := vals2 r
  cases ry
  exact isinst_d I hd rx (hT X.K d) fun tk => ⟨.bl _, H, I.tok _, rfl, q⟩
theorem d_isTy {T : String} {x y : Str} {p p2 : Pos} (hT : TyOk T) (ha : DR X a f) (hg : Gl X x) (hm : X.mg x = none) (hg2 : Gl X y) (hm2 : X.mg y = none) (hv : bootBuiltins x = some (.builtin "isinstance") := by rfl) (hv2 : bootBuiltins y = some (.type T) := by rfl)
    (hn : x ≠ "__name__" := by decide) (hdb : (x == ("__debug__" : Str)) = false := by decide) (hn2 : y ≠ "__name__" := by decide) (hdb2 : (y == ("__debug__" : Str)) = false := by decide)
    (he : starEach [a, .Name y p2] X.env = (false, eval a X.env) :: starEach [.Name y p2] X.env := by rfl) (he2 : starEach [.Name y p2] X.env = (false, eval (.Name y p2) X.env) :: starEach [] X.env := by rfl) (hpl : (backTo pos (starEach [.Name y p2] X.env)).any (·.1) = false := by rfl) :
    DE X (.Call (.Name x p) [a, .Name y p2] [] pos) (bind1 (isTy T) f) :=
  pe_imp (pe_callB (call_isTy hT) hg hm hv (pa_cons ha (pa_cons (pe_bltn (v := .ty T) hg2 hm2 hv2 rfl hn2 hdb2) pa_nil he2) he) hn hdb he hpl) fun σ H Q ⟨H₀, Hf₀, ρ, Hf, d, R, q, k⟩ => by
    obtain ⟨x, e1, e2⟩ := bindV_some q
    cases e2
    exact ⟨H₀, Hf₀, ρ, Hf, x, R, e1, fun v H1 Hf1 R1 s1 t1 h1 => ⟨v, x, rfl, h1.full R1, k _ _ _ R1 s1 t1 (Has.bl_iff.mpr rfl)⟩⟩
theorem d_gstr {x z : Str} {pos : Pos} (hg : Gl X x) (hm : ∃ t, X.mg x = some (.str z t)) (hd : (x == ("__debug__" : Str)) = false := by decide) : DE X (.Name x pos) (cF (.str z)) := by
  obtain ⟨t, hm⟩ := hm
  exact d_glob hg hm rfl ⟨t, rfl⟩ hd
theorem d_gint {x : Str} {z : Int} {pos : Pos} (hg : Gl X x) (hm : ∃ t, X.mg x = some (.int z t)) (hd : (x == ("__debug__" : Str)) = false := by decide) : DE X (.Name x pos) (cF (.int z)) := by
  obtain ⟨t, hm⟩ := hm
  exact d_glob hg hm rfl ⟨t, rfl⟩ hd
end
structure HasFn (P : Program) (w : World) (K : PySem.W.Frag) (mg : Str → Option Value) (base : Heap) (k : Nat) (x : Str) (n : Nat) (g : List D → Option D) : Prop where
  ex : ∃ (f : Addr) (fd : FuncData) (ps : List Str), FnOk P w K mg base CX0 k f fd ps (spF K n g) ∧ mg x = some (.ref f) ∧ PySem.W.keepIn K (.ref f) = true ∧ Binds K fd ps []
theorem d_callH {X : Cx} {e : Expr} {es : List Expr} {fa : FA} {pos : Pos} {k : Nat} {g : List D → Option D} {x : Str} {p : Pos} {n : Nat} (Fn : HasFn X.prog X.w X.K X.mg X.base k x n g) (hr : Room k X.A) (hg : Gl X x) (ha : DA X (e :: es) fa) (hn : ∀ ρ ds, fa ρ = some ds → ds.length = n)
    (hdb : (x == ("__debug__" : Str)) = false := by decide) (he : starEach (e :: es) X.env = (false, eval e X.env) :: starEach es X.env := by rfl) (hpl : (backTo pos (starEach es X.env)).any (·.1) = false := by rfl) :
    DE X (.Call (.Name x p) (e :: es) [] pos) (appF g fa) := by
  obtain ⟨f, fd, ps, h1, h2, h3, h4⟩ := Fn.ex
  exact d_call h1 hr hg h2 h3 h4 pass0 ha hn hdb he hpl
end FL
set_option Elab.async false
set_option linter.all false
set_option maxRecDepth 100000
set_option maxHeartbeats 4000000
namespace FL
open PySem PySem.Spec PyProof.Rows L2
theorem lt_big {n k : Nat} (h : n < 2 ^ k) (hk : k ≤ 8000) : n < big := Nat.lt_of_lt_of_le h (Nat.pow_le_pow_right (by decide) hk)
theorem mulOk_l {i j : Int} (h1 : -(2 ^ 64) < i) (h2 : i < 2 ^ 64) : MulB i j := .inl (by omega)
theorem mulD_ok {i j : Int} (h : MulB i j) : mulD (.int i) (.int j) = some (.int (i * j)) := by
  show (if MulB i j then _ else _) = _
  rw [if_pos h]
theorem modD_ok {i j : Int} (h : 0 < j) : modD (.int i) (.int j) = some (.int (i % j)) := by
  show (if 0 < j then _ else _) = _
  rw [if_pos h]
theorem fdivD_ok {i j : Int} (h : 0 < j) (h2 : j < 2 ^ 64) : fdivD (.int i) (.int j) = some (.int (i / j)) := by
  show (if DivB j then _ else _) = _
  rw [if_pos ⟨h, h2⟩]
theorem powD_ok {i j : Int} (h : PowB i j) : powD (.int i) (.int j) = some (.int (i ^ j.toNat)) := by
  show (if PowB i j then _ else _) = _
  rw [if_pos h]
theorem eqF_int {i j : Int} : eqF (.int i) (.int j) = some (.bl (decide (i = j))) := by unfold eqF; simp [dep, eqD]; rfl
theorem neF_int {i j : Int} : neF (.int i) (.int j) = some (.bl (!decide (i = j))) := by unfold neF; simp [dep, eqD]; rfl
end FL
set_option Elab.async false
set_option linter.all false
set_option maxRecDepth 100000
set_option maxHeartbeats 4000000
namespace FL
open PySem PySem.Spec PyProof.Rows L2
def closeGo (env : Env) : List (Str × NameKind) → List (Str × Addr) → Option (List (Str × Addr))
  | [], cs => some cs
  | (n, k) :: r, cs => if k == .free then match env.cells.lookup n with
      | some c => closeGo env r ((n, c) :: cs)
      | none => none
    else closeGo env r cs
def closeBody (env : Env) : (Str × NameKind) → List (Str × Addr) → Sem (ForInStep (List (Str × Addr))) := fun x c => match x with
  | (name, kind) => if (kind == NameKind.free) = true then do let a ← cellOf env name; pure (ForInStep.yield ((name, a) :: c)) else pure (ForInStep.yield c)
theorem closeBody_free {env : Env} {n : Str} {k : NameKind} {c : Addr} {cs : List (Str × Addr)} (hk : (k == NameKind.free) = true) (hc : env.cells.lookup n = some c) : closeBody env (n, k) cs = pure (.yield ((n, c) :: cs)) := by
  unfold closeBody cellOf
  simp only [hk, if_true, hc]
  rfl
theorem closeBody_no {env : Env} {n : Str} {k : NameKind} {cs : List (Str × Addr)} (hk : (k == NameKind.free) = false) : closeBody env (n, k) cs = pure (.yield cs) := by
  unfold closeBody
  simp only [hk, Bool.false_eq_true, if_false]
theorem closeGo_eq {env : Env} : ∀ (l : List (Str × NameKind)) (cs cl : List (Str × Addr)), closeGo env l cs = some cl → (forIn l cs (closeBody env) : Sem (List (Str × Addr))) = pure cl
  | [], cs, cl, h => by cases h; rfl
  | (n, k) :: r, cs, cl, h => by
    rw [List.forIn_cons]
    unfold closeGo at h
    cases hk : k == NameKind.free with
    | true =>
      rw [hk] at h
      cases hc : env.cells.lookup n with
      | none => rw [hc] at h; cases h
      | some c =>
        rw [hc] at h
        rw [closeBody_free hk hc]
        exact closeGo_eq r _ cl h
    | false =>
      rw [hk] at h
      rw [closeBody_no hk]
      exact closeGo_eq r _ cl h
theorem closureFor_go {scope : Scope} {env : Env} {cl : List (Str × Addr)} (h : closeGo env scope.names [] = some cl) : closureFor scope env = pure cl := by
  have e := closeGo_eq (env := env) scope.names [] cl h
  unfold closureFor
  simp only [bind_pure]
  exact e
theorem closeGo_ex {env : Env} : ∀ (l : List (Str × NameKind)) (cs : List (Str × Addr)), (∀ n, (n, NameKind.free) ∈ l → ∃ c, env.cells.lookup n = some c) → (∀ x c, cs.lookup x = some c → env.cells.lookup x = some c) →
    ∃ cl, closeGo env l cs = some cl ∧ (∀ x c, cl.lookup x = some c → env.cells.lookup x = some c) ∧ (∀ x c, cs.lookup x = some c → ∃ c', cl.lookup x = some c') ∧ ∀ n, (n, NameKind.free) ∈ l → ∃ c, cl.lookup n = some c
  | [], cs, _, h2 => ⟨cs, rfl, h2, fun x c e => ⟨c, e⟩, fun n hn => by cases hn⟩
  | (n, k) :: r, cs, h1, h2 => by
    cases hk : k == NameKind.free with
    | true =>
      have hkf : k = .free := by simpa using hk
      subst hkf
      obtain ⟨c, hc⟩ := h1 n List.mem_cons_self
      obtain ⟨cl, e1, e2, e3, e4⟩ := closeGo_ex r ((n, c) :: cs) (fun m hm => h1 m (List.mem_cons_of_mem _ hm)) (fun x d e => by
        rw [List.lookup_cons] at e
        cases hx : x == n with
        | true => rw [hx] at e; cases e; have : x = n := by simpa using hx
                  rw [this]; exact hc
        | false => rw [hx] at e; exact h2 x d e)
      refine ⟨cl, by unfold closeGo; rw [hk, hc]; exact e1, e2, fun x d e => ?_, fun m hm => ?_⟩
      · cases hx : x == n with
        | true => exact e3 x c (by rw [List.lookup_cons, hx])
        | false => exact e3 x d (by rw [List.lookup_cons, hx]; exact e)
      · rcases List.mem_cons.mp hm with q | q
        · cases q; exact e3 n c (by rw [List.lookup_cons]; simp)
        · exact e4 m q
    | false =>
      obtain ⟨cl, e1, e2, e3, e4⟩ := closeGo_ex r cs (fun m hm => h1 m (List.mem_cons_of_mem _ hm)) h2
      refine ⟨cl, by unfold closeGo; rw [hk]; exact e1, e2, e3, fun m hm => ?_⟩
      rcases List.mem_cons.mp hm with q | q
      · cases q; simp at hk
      · exact e4 m q
structure CompScope (osc : Scope) (scope : Scope) (own frees : List Str) : Prop where
  kind : scope.kind = .function
  nocell : ∀ y ∈ scope.names, y.2 ≠ .cell
  loc : ∀ y ∈ scope.names, y.2 = .local → scope.names.lookup y.1 = some .local
  free : ∀ y ∈ scope.names, y.2 = .free → osc.names.lookup y.1 = some .cell ∨ osc.names.lookup y.1 = some .free
  capt : ∀ x ∈ frees, (osc.names.lookup x = some .cell ∨ osc.names.lookup x = some .free) ∧ scope.names.lookup x = some .free
theorem lookup_mem {α : Type} : ∀ {l : List (Str × α)} {x : Str} {k : α}, l.lookup x = some k → (x, k) ∈ l
  | [], _, _, h => by simp at h
  | (n, k) :: r, x, k', h => by
    rw [List.lookup_cons] at h
    cases hx : x == n with
    | true => rw [hx] at h; cases h; have : x = n := by simpa using hx
              subst this; exact List.mem_cons_self
    | false => rw [hx] at h; exact List.mem_cons_of_mem _ (lookup_mem h)
theorem relabel_cf {env : Env} {x : Str} : ∀ {l : List (Str × NameKind)}, (∀ y ∈ l, y.2 ≠ .cell) →
    ((l.map fun (n, k) => if (k == NameKind.free && env.scope.kind == .function && env.kindOf n == some .cell) then (n, NameKind.cell) else (n, k)).lookup x = some .cell ∨
     (l.map fun (n, k) => if (k == NameKind.free && env.scope.kind == .function && env.kindOf n == some .cell) then (n, NameKind.cell) else (n, k)).lookup x = some .free) → (x, NameKind.free) ∈ l
  | [], _, h => by simp at h
  | (n, k) :: r, hc, h => by
    have ih := @relabel_cf env x r (fun y hy => hc y (List.mem_cons_of_mem _ hy))
    have hk : k ≠ .cell := hc (n, k) List.mem_cons_self
    rw [List.map_cons] at h
    by_cases hq : (k == NameKind.free && env.scope.kind == .function && env.kindOf n == some .cell) = true
    · simp only [hq, if_true, List.lookup_cons] at h
      cases hx : x == n with
      | true =>
        have e1 : x = n := by simpa using hx
        have e2 : k = .free := by simp at hq; exact hq.1.1
        subst e1 e2; exact List.mem_cons_self
      | false => rw [hx] at h; exact List.mem_cons_of_mem _ (ih h)
    · simp only [hq, Bool.false_eq_true, if_false, List.lookup_cons] at h
      cases hx : x == n with
      | true =>
        rw [hx] at h
        have e1 : x = n := by simpa using hx
        subst e1
        rcases h with h | h
        · cases h; exact absurd rfl hk
        · cases h; exact List.mem_cons_self
      | false => rw [hx] at h; exact List.mem_cons_of_mem _ (ih h)
theorem relabel_free {env : Env} {x : Str} : ∀ {l : List (Str × NameKind)}, l.lookup x = some .free →
    ((l.map fun (n, k) => if (k == NameKind.free && env.scope.kind == .function && env.kindOf n == some .cell) then (n, NameKind.cell) else (n, k)).lookup x = some .cell ∨
     (l.map fun (n, k) => if (k == NameKind.free && env.scope.kind == .function && env.kindOf n == some .cell) then (n, NameKind.cell) else (n, k)).lookup x = some .free)
  | [], h => by simp at h
  | (n, k) :: r, h => by
    have ih := @relabel_free env x r
    rw [List.map_cons]
    rw [List.lookup_cons] at h
    by_cases hq : (k == NameKind.free && env.scope.kind == .function && env.kindOf n == some .cell) = true
    · simp only [hq, if_true, List.lookup_cons]
      cases hx : x == n with
      | true => exact .inl rfl
      | false => rw [hx] at h; exact ih h
    · simp only [hq, Bool.false_eq_true, if_false, List.lookup_cons]
      cases hx : x == n with
      | true => rw [hx] at h; exact .inr h
      | false => rw [hx] at h; exact ih h
theorem compLoop_any {prog : Program} {w : World} {A : Around} {R : Result → Shared → Prop} {s : Shared} {elt target iter : Expr} {ifs : List Expr} {scope : Scope} {pos : Pos} {it acc : Value} {env : Env} (I : Nat → Shared → Prop)
    (turn : ∀ n s, I n s → wpAny (model prog w) A (pyNext it) (fun r s₁ => match r with
      | none => R (.ok .next) s₁
      | some v => wpAny (model prog w) A (letOwnedTupleGo target it v) (fun _ s₁' => wpAny (model prog w) A (assign target env v) (fun _ s₂ =>
          wpAny (model prog w) A (forIn ifs true fun c r => if r = true then do let ok ← isTrue c env (eval c env); pure (ForInStep.yield ok) else pure (ForInStep.yield r)) (fun ok s₃ =>
            if ok = true then wpAny (model prog w) A (eval elt env) (fun x s₄ =>
              wpAny (model prog w) A (call (.builtin "list.append") [acc, x]) (fun _ s₅ => ∃ m, m < n ∧ I m s₅) (fun _ _ => False) s₄) (fun _ _ => False) s₃
            else ∃ m, m < n ∧ I m s₃) (fun _ _ => False) s₂) (fun _ _ => False) s₁') (fun _ _ => False) s₁) (fun _ _ => False) s)
    (n : Nat) (h : I n s) :
    codeAny (model prog w) A (.compLoop (.ListComp elt [⟨target, iter, ifs, 0⟩] scope pos) 0 it acc env) R s := by
  refine codeAny_loop rfl I (fun n s hI => ?_) n h
  show wpAny _ A ((compTurn (.ListComp elt [⟨target, iter, ifs, 0⟩] scope pos) 0 it acc env).onRaise (fun x => do noteFrame x env; theTreesLotGoes x)) _ _ s
  refine wpAny_noted ?_
  rw [compTurn_list]
  refine wpAny_bind (wpAny_standAt (wpAny_bind (wpAny_mono (turn n s hI) (fun r s₁ h₁ => ?_) fun _ _ h' => h'.elim)))
  cases r with
  | none => exact wpAny_pure h₁
  | some v =>
    refine wpAny_bind (wpAny_mono h₁ (fun _ s₁' h₁' => ?_) fun _ _ h' => h'.elim)
    refine wpAny_bind (wpAny_mono h₁' (fun _ s₂ h₂ => wpAny_bind (wpAny_mono h₂ (fun ok s₃ h₃ => ?_) fun _ _ h' => h'.elim)) fun _ _ h' => h'.elim)
    cases ok with
    | false => exact wpAny_pure ⟨rfl, h₃⟩
    | true =>
      exact wpAny_bind (wpAny_bind (wpAny_mono h₃ (fun x s₄ h₄ => wpAny_bind (wpAny_mono h₄ (fun _ s₅ h₅ => wpAny_pure (wpAny_pure ⟨rfl, h₅⟩)) fun _ _ h' => h'.elim)) fun _ _ h' => h'.elim))
def cxC (X : Cx) (scope : Scope) (cl : List (Str × Addr)) (C : Addr) (N : List Str) (s : Shared) (H : Hp) (fp : List Addr) : Cx :=
  { X with N := N, s₀ := s, H₀ := H, env := compEnvC scope cl C X.env, outer := X.stack, stack := X.stack, ex := fp, fn := fun _ => false, pn := [], xe := fun _ _ => False }
end FL
set_option Elab.async false
set_option linter.all false
set_option maxRecDepth 100000
set_option maxHeartbeats 4000000
namespace FL
open PySem PySem.Spec PyProof.Rows L2
def capS (ρ : Rho) (j : Nat) : Slot := match ρ[j]? with
  | some (.fr d) => .fr d
  | _ => .no
def compGo (γ : FG) (ft : FT) (f : FE) : List D → Rho → Option (List D)
  | [], _ => some []
  | d :: ds, ρ => (γ d ρ).bind fun ρ1 => (ft ρ1).bind fun b => if b = true then (f ρ1).bind fun y => (compGo γ ft f ds ρ1).bind fun ys => some (y :: ys) else compGo γ ft f ds ρ1
def compS (n : Nat) (caps : List Nat) (ρ : Rho) : Rho := List.replicate n .no ++ caps.map (capS ρ)
def compF (n : Nat) (caps : List Nat) (fi : FA) (γ : FG) (ft : FT) (f : FE) : FA := fun ρ => (fi ρ).bind fun ds => if ds.length ≤ sizeLine then compGo γ ft f ds (compS n caps ρ) else none
def DQ (X : Cx) (ifs : List Expr) (ft : FT) : Prop :=
  ∀ (pins : List (Addr × Obj)) (s : Shared) (σ : St) (H : Hp) (Q : Bool → Hp → Prop), Inv X pins σ H s → tT X.K ft σ H Q →
    wpAny (model X.prog X.w) X.A (forIn ifs true fun c r => if r = true then do let ok ← isTrue c X.env (eval c X.env); pure (ForInStep.yield ok) else pure (ForInStep.yield r)) (TP X pins σ Q) X.xe s
def ttF : FT := fun _ => some true
theorem dq_nil {X : Cx} : DQ X [] ttF := fun pins s σ H Q I h => by
  obtain ⟨H₀, Hf₀, ρ, Hf, b, R, q, k⟩ := h
  cases q
  exact wpAny_tests_nil ⟨H, I, k _ _ R sameR sameR⟩
theorem dq_one {X : Cx} {c : Expr} {ft : FT} (h : DT X c ft) : DQ X [c] ft := fun pins s σ H Q I hq => wpAny_tests_one (h pins s σ H Q I hq)
def compσ (n : Nat) (caps : List Nat) (σ : St) : St := List.replicate n none ++ caps.map (fun j => σ.getD j none)
section
variable {X : Cx} {scope : Scope} {own frees : List Str} {caps : List Nat} {cl : List (Str × Addr)}
theorem cxC_ok {pins : List (Addr × Obj)} {s : Shared} {σ : St} {H : Hp} {fp : List Addr} {C : Addr} {N : List Str} (I : Inv X pins σ H s) (S : CompScope X.env.scope scope own frees) (hfp : ∀ b ∈ fp, FpOk X pins H b) (hfo : ∀ b ∈ fp, b < s.heap.objs.size)
    (c1 : ∀ x c, cl.lookup x = some c → X.env.cells.lookup x = some c) (c2 : ∀ n, (n, NameKind.free) ∈ scope.names → ∃ c, cl.lookup n = some c) (hC : s.heap.objs.size ≤ C) : (cxC X scope cl C N s H fp).Ok where
  mod := I.ok.mod
  kind := S.kind
  glob := I.ok.glob
  blt := I.ok.blt
  above := hC
  inj := fun x y c e1 e2 => I.ok.inj x y c (c1 x c e1) (c1 y c e2)
  has := fun x hx => c2 x (relabel_cf S.nocell hx)
  cab := fun x c h => by cases h
  hd := I.ok.hd
  frames := I.ok.frames
  stk := .inl rfl
  exf := fun b hb => ⟨Nat.ne_of_lt (Nat.lt_of_lt_of_le (hfo b hb) hC), fun x c e => (hfp b hb).2.2.2.2.1 x c (c1 x c e)⟩
  bs := I.bs
  bsz := Nat.le_trans I.ok.bsz I.sz
  noex := fun b o e hb => by
    rcases (hfp b hb).2.2.2.1 with z | z
    · exact I.ok.noex b o e z
    · exact absurd (Nat.lt_of_lt_of_le (Heap.lt_size e) (Nat.le_trans I.ok.bsz z)) (Nat.lt_irrefl _)
  exfs := fun b hb z => by
    rcases List.mem_cons.mp (I.stkSub b z) with q | q
    · exact (hfp b hb).2.1 q
    · exact (hfp b hb).2.2.1 q
  funs := I.stack
  frf := I.stkFree
theorem map_get {caps : List Nat} {N : List Str} {frees : List Str} (h : caps.map (fun j => N[j]?) = frees.map some) {k : Nat} {x : Str} (e : frees[k]? = some x) : ∃ j, caps[k]? = some j ∧ N[j]? = some x := by
  have := congrArg (fun l => l[k]?) h
  simp only [List.getElem?_map, e, Option.map_some] at this
  cases hc : caps[k]? with
  | none => rw [hc] at this; cases this
  | some j => rw [hc] at this; exact ⟨j, rfl, by simpa using this⟩
theorem cxC_inv {pins : List (Addr × Obj)} {s : Shared} {σ : St} {H : Hp} {fp : List Addr} {h' : Heap} {t' : Nat} (I : Inv X pins σ H s) (S : CompScope X.env.scope scope own frees) (hcap : caps.map (fun j => X.N[j]?) = frees.map some) (hfp : ∀ b ∈ fp, FpOk X pins H b) (hfo : ∀ b ∈ fp, b < s.heap.objs.size)
    (c1 : ∀ x c, cl.lookup x = some c → X.env.cells.lookup x = some c) (c2 : ∀ n, (n, NameKind.free) ∈ scope.names → ∃ c, cl.lookup n = some c) {C : Addr} (hC : C = s.heap.objs.size + 1) (hns : h'.Ns C fun _ => none)
    (hsb : Heap.SameBut C ((s.heap.push { cls := .type "list", dict := none, data := .seq #[] }).push { cls := .type "dict", data := .dict #[] }) h') :
    Inv (cxC X scope cl C (own ++ frees) s H fp) [] (compσ own.length caps σ) (upd H s.heap.objs.size (.lst [])) { s with heap := h', toks := t' } := by
  have hk : ∀ b u, s.heap.get? b = some u → h'.get? b = some u := fun b u e => (hsb.2 b (by rw [hC]; exact Nat.ne_of_lt (Nat.lt_succ_of_lt (Heap.lt_size e)))).trans (Heap.get?_push_of_some _ (Heap.get?_push_of_some _ e))
  have hD : h'.get? s.heap.objs.size = some { cls := .type "list", dict := none, data := .seq #[] } := (hsb.2 _ (by rw [hC]; exact Nat.ne_of_lt (Nat.lt_succ_self _))).trans (Heap.get?_push_of_some _ (Heap.get?_push_size _ rfl))
  have hfD : H s.heap.objs.size = none := I.hok.fresh (Nat.le_refl _)
  have hfC : H C = none := I.hok.fresh (by rw [hC]; exact Nat.le_succ _)
  have hCD : C ≠ s.heap.objs.size := by rw [hC]; exact Nat.succ_ne_self _
  have new : ObjOk X.prog X.w (upd H s.heap.objs.size (.lst [])) h' s.heap.objs.size (.lst []) := ⟨by decide, [], 0, .nil, hD⟩
  refine ⟨cxC_ok I S hfp hfo c1 c2 (by rw [hC]; exact Nat.le_succ _), rfl, I.bare, Un.laid hk (Nat.le_refl _) hfD, ⟨fun _ => none, hns, ?_⟩, ?_, ?_, ?_, ?_, I.hok.laid hk (Nat.le_refl _) new, ?_⟩
  · intro i x v e1 e2 hv
    have e1 : (own ++ frees)[i]? = some x := e1
    unfold compσ at e2
    by_cases h1 : i < own.length
    · rw [List.getElem?_append_left (by simpa using h1), List.getElem?_replicate, if_pos h1] at e2
      cases e2
    · rw [List.getElem?_append_right (by simpa using h1)] at e2
      rw [List.getElem?_append_right (by omega)] at e1
      have hcl : caps.length = frees.length := by have := congrArg List.length hcap; simpa using this
      simp only [List.length_replicate] at e2
      · rw [List.getElem?_map] at e2
        obtain ⟨j, q1, q2⟩ := map_get hcap e1
        rw [q1] at e2
        have e2 : σ.getD j none = some v := by simpa using e2
        have e2' : σ[j]? = some (some v) := by
          rw [List.getD_eq_getElem?_getD] at e2
          cases z : σ[j]? with
          | none => rw [z] at e2; cases e2
          | some w => rw [z] at e2; simp at e2; rw [e2]
        obtain ⟨hx, hsx⟩ := S.capt x (List.mem_of_getElem? e1)
        obtain ⟨m, hn, hl⟩ := I.loc
        obtain ⟨u, r, lk⟩ := hl j x v q2 e2' (.inr hx)
        refine ⟨u, r, ?_⟩
        rcases lk with ⟨k1, _⟩ | ⟨k1, c, k2, k3⟩
        · have k1 : X.env.scope.names.lookup x = some .local := k1
          rcases hx with z | z <;> rw [z] at k1 <;> cases k1
        · obtain ⟨c', hc'⟩ := c2 x (lookup_mem hsx)
          have z := c1 x c' hc'
          rw [k2] at z; cases z
          obtain ⟨o, ho, hd⟩ := k3
          exact .inr ⟨relabel_free hsx, c, hc', o, hk _ _ ho, hd⟩
  · intro x c e
    obtain ⟨v, o, ho, hd⟩ := I.cell x c (c1 x c e)
    exact ⟨v, o, hk _ _ ho, hd⟩
  · show (upd H s.heap.objs.size (.lst [])) C = none
    rw [upd_ne hCD]; exact hfC
  · intro x c e
    have z := I.freeC x c (c1 x c e)
    obtain ⟨v, o, ho, hd⟩ := I.cell x c (c1 x c e)
    show (upd H s.heap.objs.size (.lst [])) c = none
    rw [upd_ne (Nat.ne_of_lt (Heap.lt_size ho))]; exact z
  · intro p hp; cases hp
  · show (compσ own.length caps σ).length = (own ++ frees).length
    have hcl : caps.length = frees.length := by have := congrArg List.length hcap; simpa using this
    simp [compσ, hcl]
def NoOwn (ρ : Rho) : Prop := ∀ (i : Nat) (sl : Slot), ρ[i]? = some sl → sl.own = false
theorem Rep.rebase {K : PySem.W.Frag} {H₀ Hf₀ : Hp} {σ : St} {ρ : Rho} {H Hf H' : Hp} (R : Rep K H₀ Hf₀ σ ρ H Hf) (hn : NoOwn ρ) (hs : Same Hf H') : Rep K H' Hf σ ρ H' Hf where
  s0 := sameR
  sf := hs
  nf := fun _ _ e => .inl e
  f0 := sameR
  len := R.len
  fr := R.fr
  ow := fun i sl e o => by rw [hn i sl e] at o; cases o
  inj := fun i j sl sl' a e o => by rw [hn i sl e] at o; cases o
def KeepsNo (γ : FG) : Prop := ∀ d ρ ρ', γ d ρ = some ρ' → NoOwn ρ → NoOwn ρ'
theorem NoOwn.set {ρ : Rho} (h : NoOwn ρ) (i : Nat) (d : D) : NoOwn (ρ.set i (.fr d)) := fun j sl e => by
  rw [List.getElem?_set] at e
  split at e
  · split at e
    · cases e; rfl
    · cases e
  · exact h j sl e
theorem kn_name {i : Nat} : KeepsNo (nameG i) := fun d ρ ρ' e h => by cases e; exact h.set i d
theorem NoOwn.comp {n : Nat} {caps : List Nat} {ρ : Rho} : NoOwn (compS n caps ρ) := fun i sl e => by
  unfold compS at e
  by_cases h : i < n
  · rw [List.getElem?_append_left (by simpa using h), List.getElem?_replicate, if_pos h] at e
    cases e; rfl
  · rw [List.getElem?_append_right (by simpa using h), List.getElem?_map] at e
    cases q : caps[i - (List.replicate n Slot.no).length]? with
    | none => rw [q] at e; cases e
    | some j =>
      rw [q] at e
      cases e
      unfold capS
      split <;> rfl
theorem rep_comp {K : PySem.W.Frag} {H₀ Hf₀ : Hp} {σ : St} {ρ : Rho} {H Hf H' : Hp} {n : Nat} {caps : List Nat} (R : Rep K H₀ Hf₀ σ ρ H Hf) (hs : Same Hf H') : Rep K H' Hf (compσ n caps σ) (compS n caps ρ) H' Hf where
  s0 := sameR
  sf := hs
  nf := fun _ _ e => .inl e
  f0 := sameR
  len := by simp [compS, compσ]
  fr := fun i d e => by
    unfold compS at e
    unfold compσ
    by_cases h : i < n
    · rw [List.getElem?_append_left (by simpa using h), List.getElem?_replicate, if_pos h] at e
      cases e
    · rw [List.getElem?_append_right (by simpa using h), List.getElem?_map] at e ⊢
      simp only [List.length_replicate] at e ⊢
      cases q : caps[i - n]? with
      | none => rw [q] at e; cases e
      | some j =>
        rw [q] at e
        simp only [Option.map_some, Option.some.injEq] at e ⊢
        unfold capS at e
        split at e
        · cases e
          rename_i e
          obtain ⟨v, q1, q2⟩ := R.fr j d e
          exact ⟨v, by rw [List.getD_eq_getElem?_getD, q1]; rfl, q2⟩
        · cases e
  ow := fun i sl e o => by rw [NoOwn.comp i sl e] at o; cases o
  inj := fun i j sl sl' a e o => by rw [NoOwn.comp i sl e] at o; cases o
theorem Grows.trans {H Hf H1 Hf1 H2 Hf2 : Hp} (a : Grows H Hf H1 Hf1) (b : Grows H1 Hf1 H2 Hf2) : Grows H Hf H2 Hf2 :=
  ⟨a.h.trans b.h, a.f.trans b.f, b.fh, fun c o e => by
    rcases b.new c o e with q | q | q
    · exact a.new c o q
    · exact .inr (.inl (a.h.free q))
    · exact .inr (.inr q)⟩
theorem Rep.toGrows {K : PySem.W.Frag} {σ : St} {ρ : Rho} {H Hf H' Hf' : Hp} (R : Rep K H Hf σ ρ H' Hf') : Grows H Hf H' Hf' := ⟨R.s0, R.f0, R.sf, R.nf⟩
theorem compGo_cons {γ : FG} {ft : FT} {f : FE} {d : D} {ds ys : List D} {ρ : Rho} (h : compGo γ ft f (d :: ds) ρ = some ys) :
    ∃ ρ1 b, γ d ρ = some ρ1 ∧ ft ρ1 = some b ∧ ((b = true ∧ ∃ y r, f ρ1 = some y ∧ compGo γ ft f ds ρ1 = some r ∧ ys = y :: r) ∨ (b = false ∧ compGo γ ft f ds ρ1 = some ys)) := by
  unfold compGo at h
  cases e1 : γ d ρ with
  | none => rw [e1] at h; cases h
  | some ρ1 =>
    rw [e1] at h
    simp only [Option.bind_some] at h
    cases e2 : ft ρ1 with
    | none => rw [e2] at h; cases h
    | some b =>
      rw [e2] at h
      simp only [Option.bind_some] at h
      refine ⟨ρ1, b, rfl, e2, ?_⟩
      cases b with
      | false => exact .inr ⟨rfl, by simpa using h⟩
      | true =>
        simp only [if_true] at h
        cases e3 : f ρ1 with
        | none => rw [e3] at h; cases h
        | some y =>
          rw [e3] at h
          simp only [Option.bind_some] at h
          cases e4 : compGo γ ft f ds ρ1 with
          | none => rw [e4] at h; cases h
          | some r => rw [e4] at h; cases h; exact .inl ⟨rfl, y, r, rfl, rfl, rfl⟩
theorem comp_core {tg elt iter : Expr} {ifs : List Expr} {pos : Pos} {γ : FG} {ft : FT} {f : FE} {pins : List (Addr × Obj)} {s₂ : Shared} {σ : St} {H₂ Hf₂ H₀ Hf₀ : Hp} {ρ : Rho} {ds ys : List D} {J : It} {fp : List Addr} {it : Addr} {tn : Nat → Heap → Prop} {E : Value → Shared → Prop}
    (hc : X.calm = true) (S : CompScope X.env.scope scope own frees) (hcap : caps.map (fun j => X.N[j]?) = frees.map some) (kn : KeepsNo γ)
    (body : ∀ cl C s H fp, DG (cxC X scope cl C (own ++ frees) s H fp) tg γ ∧ DQ (cxC X scope cl C (own ++ frees) s H fp) ifs ft ∧ DE (cxC X scope cl C (own ++ frees) s H fp) elt f)
    (c1 : ∀ x c, cl.lookup x = some c → X.env.cells.lookup x = some c) (c2 : ∀ n, (n, NameKind.free) ∈ scope.names → ∃ c, cl.lookup n = some c)
    (I : Inv X pins σ H₂ s₂) (T : Turn X.prog X.w X.K tg J fp it tn) (st : tn 0 s₂.heap) (hfp : ∀ b ∈ fp, FpOk X pins H₂ b) (R : Rep X.K H₀ Hf₀ σ ρ H₂ Hf₂) (wk : Walks X.K Hf₂ J ds) (hz : ds.length ≤ sizeLine)
    (hgo : compGo γ ft f ds (compS own.length caps ρ) = some ys) {RR : Value → Addr → Result → Shared → Prop}
    (hRR : ∀ D C s' H' Hf' xs, Inv X pins σ H' s' → (∃ m, s'.heap.Ns C m) → FpOk X pins H' C → Grows H₂ Hf₂ H' Hf' → HasL X.K Hf' ys xs → H' D = some (.lst xs) → Hf' D = none → H₂ D = none → RR (.ref D) C (.ok .next) s') :
    wpAny (model X.prog X.w) X.A (newList []) (fun acc s₃ => wpAny (model X.prog X.w) X.A (newFunctionEnv scope X.env.globals cl [] X.env.qual none .none (some X.env)) (fun cenv s₄ =>
      codeAny (model X.prog X.w) X.A (.compStart (.ListComp elt [⟨tg, iter, ifs, 0⟩] scope pos) 0 (.ref it) acc { cenv with scope := relabel scope X.env }) (RR acc cenv.locals) s₄) E s₃) E s₂ := by
  have hfo : ∀ b ∈ fp, b < s₂.heap.objs.size := fun b hb => by
    obtain ⟨o, ho, _⟩ := T.obj 0 _ st b hb
    exact Heap.lt_size ho
  refine wpAny_newObj_type (wpAny_newFunctionEnv S.nocell (by intro y hy; simp at hy) (fun h₁ hns₁ hsb₁ => ?_) S.kind)
  dsimp only at hns₁ hsb₁ ⊢
  have hC : (s₂.heap.push { cls := .type "list", dict := none, data := .seq ([] : List Value).toArray }).objs.size = s₂.heap.objs.size + 1 := by rw [Heap.size_push]
  generalize hCe : (s₂.heap.push { cls := .type "list", dict := none, data := .seq ([] : List Value).toArray }).objs.size = C at hC hns₁ hsb₁ ⊢
  obtain ⟨b1, b2, b3⟩ := body cl C s₂ H₂ fp
  have hfD : H₂ s₂.heap.objs.size = none := I.hok.fresh (Nat.le_refl _)
  have IC : Inv (cxC X scope cl C (own ++ frees) s₂ H₂ fp) [] (compσ own.length caps σ) (upd H₂ s₂.heap.objs.size (.lst [])) { s₂ with heap := h₁, toks := s₂.toks + ([] : List (Str × Value)).length } :=
    cxC_inv I S hcap hfp hfo c1 c2 hC hns₁ hsb₁
  have DfD : Hf₂ s₂.heap.objs.size = none := R.sf.free hfD
  have R1 : Rep X.K (upd H₂ s₂.heap.objs.size (.lst [])) Hf₂ (compσ own.length caps σ) (compS own.length caps ρ) (upd H₂ s₂.heap.objs.size (.lst [])) Hf₂ := rep_comp R (R.sf.trans (same_upd hfD))
  have keep1 : ∀ b o, s₂.heap.get? b = some o → h₁.get? b = some o := fun b u e => (hsb₁.2 b (by rw [hC]; exact Nat.ne_of_lt (Nat.lt_succ_of_lt (Heap.lt_size e)))).trans (Heap.get?_push_of_some _ (Heap.get?_push_of_some _ e))
  have st1 : tn 0 h₁ := T.keep 0 _ _ st fun b _ o e => keep1 b o e
  -- what stays true of the iterator's objects through the loop
  have stat : ∀ {H' : Hp}, (∀ b ∈ fp, H' b = none) → ∀ b ∈ fp, FpOk (cxC X scope cl C (own ++ frees) s₂ H₂ fp) [] H' b := fun {H'} hn b hb => by
    refine ⟨hn b hb, Nat.ne_of_lt (Nat.lt_of_lt_of_le (hfo b hb) (by rw [hC]; exact Nat.le_succ _)), fun z => ?_, .inl hb, fun x c e => (hfp b hb).2.2.2.2.1 x c (c1 x c e), fun p hp => by cases hp⟩
    rcases List.mem_cons.mp (I.stkSub b z) with q | q
    · exact (hfp b hb).2.1 q
    · exact (hfp b hb).2.2.1 q
  have fp1 : ∀ b ∈ fp, (upd H₂ s₂.heap.objs.size (.lst [])) b = none := fun b hb => by
    rw [upd_ne (Nat.ne_of_lt (hfo b hb))]; exact (hfp b hb).1
  have loop : ∀ s₃ : Shared, s₃ = { s₂ with heap := h₁, toks := s₂.toks + ([] : List (Str × Value)).length } →
      codeAny (model X.prog X.w) X.A (.compLoop (.ListComp elt [⟨tg, iter, ifs, 0⟩] scope pos) 0 (.ref it) (.ref s₂.heap.objs.size) (compEnvC scope cl C X.env)) (RR (.ref s₂.heap.objs.size) C) s₃ := by
    rintro s₃ rfl
    refine compLoop_any (fun n s' => ∃ i ρ' σ' H' Hf' zs xs r, n = ds.length - i ∧ i ≤ ds.length ∧ Inv (cxC X scope cl C (own ++ frees) s₂ H₂ fp) [] σ' H' s' ∧ tn i s'.heap ∧ (∀ b ∈ fp, H' b = none) ∧ Rep X.K H' Hf' σ' ρ' H' Hf' ∧ NoOwn ρ' ∧
      compGo γ ft f (ds.drop i) ρ' = some r ∧ zs ++ r = ys ∧ HasL X.K Hf' zs xs ∧ zs.length ≤ i ∧ H' s₂.heap.objs.size = some (.lst xs) ∧ Hf' s₂.heap.objs.size = none ∧ Grows H₂ Hf₂ H' Hf') ?_ ds.length
      ⟨0, _, _, _, _, [], [], ys, by simp, Nat.zero_le _, IC, st1, fp1, R1, NoOwn.comp, by simpa using hgo, rfl, .nil, by simp, upd_same, DfD, ⟨same_upd hfD, sameR, R1.sf, fun b o e => .inl e⟩⟩
    rintro n s' ⟨i, ρ', σ', H', Hf', zs, xs, r, rfl, hi, I', st', fr', R', no', go', hys, hxs, hzl, hD', hfD', gr'⟩
    obtain ⟨w1, w2⟩ := wk H' Hf' gr'.f R'.sf i
    by_cases hil : i < ds.length
    · have hd : ds[i]? = some ds[i] := List.getElem?_eq_getElem hil
      obtain ⟨go, yld⟩ := w1 _ hd
      rw [List.drop_eq_getElem_cons hil] at go'
      obtain ⟨ρ1, b, eg, et, hb⟩ := compGo_cons go'
      refine wpAny_mono (T.item (cxC X scope cl C (own ++ frees) s₂ H₂ fp) rfl rfl rfl hc i [] s' σ' H' (fun _ _ => False) I' (stat fr') st' go) (fun rv s4 ⟨u, hr, h4⟩ => ?_) fun _ _ z => z
      subst hr
      refine wpAny_mono h4 (fun _ s5 ⟨x, H5, I5, r5, y5, st5, fr5⟩ => ?_) fun _ _ z => z
      obtain ⟨Hf5, gr5, hx5⟩ := yld x H5 y5
      have R5 : Rep X.K H' Hf' σ' ρ' H5 Hf5 := R'.grows gr5
      have I5' := I5.pinned (stat fr5) (T.obj _ _ st5)
      refine wpAny_mono (b1 _ s5 σ' H5 x u _ I5' r5 ⟨H', Hf', ρ', Hf5, ds[i], ρ1, R5, hx5, eg, fun σ6 H6 Hf6 R6 t6 => (⟨Hf6, R6, t6⟩ : ∃ Hf6, Rep X.K H' Hf' σ6 ρ1 H6 Hf6 ∧ Same Hf5 Hf6)⟩) (fun _ s6 h6 => ?_) fun _ _ z => z
      obtain ⟨σ6, H6, I6, Hf6, R6, t6⟩ := h6
      refine wpAny_mono (b2 _ s6 σ6 H6 (fun b' H7 => b' = b ∧ ∃ Hf7, Rep X.K H' Hf' σ6 ρ1 H7 Hf7) I6 ⟨H', Hf', ρ1, Hf6, b, R6, et, fun H7 Hf7 R7 s7 t7 => ⟨rfl, Hf7, R7⟩⟩) (fun ok s7 h7 => ?_) fun _ _ z => z
      obtain ⟨H7, I7, rfl, Hf7, R7⟩ := h7
      have no1 := kn _ _ _ eg no'
      have hm : ds.length - (i + 1) < ds.length - i := by omega
      rcases hb with ⟨rfl, y, r', ef, er, rfl⟩ | ⟨rfl, er⟩
      · rw [if_pos rfl]
        refine wpAny_mono (b3 _ s7 σ6 H7 (fun v H8 => ∃ Hf8, Rep X.K H' Hf' σ6 ρ1 H8 Hf8 ∧ Has X.K Hf8 y v) I7 ⟨H', Hf', ρ1, Hf7, y, R7, ef, fun v H8 Hf8 R8 s8 t8 h8 => ⟨Hf8, R8, h8⟩⟩) (fun u' s8 h8 => ?_) fun _ _ z => z
        obtain ⟨v, H8, I8, r8, Hf8, R8, h8⟩ := h8
        have hD8 : H8 s₂.heap.objs.size = some (.lst xs) := R8.s0 _ _ hD'
        have hfD8 : Hf8 s₂.heap.objs.size = none := by
          cases z : Hf8 s₂.heap.objs.size with
          | none => rfl
          | some o =>
            rcases R8.nf _ _ z with q | q | ⟨ks, rfl⟩
            · rw [hfD'] at q; cases q
            · rw [hD'] at q; cases q
            · have := hD8.symm.trans (R8.sf _ _ z); cases this
        have hsd : Same Hf8 (upd H8 s₂.heap.objs.size (.lst (xs ++ [v]))) := fun b o e => by rw [upd_ne (ne_of_none e hfD8)]; exact R8.sf b o e
        refine wpAny_mono (mt_append (X := cxC X scope cl C (own ++ frees) s₂ H₂ fp) _ s8 σ6 H8 (.ref s₂.heap.objs.size) [v] _ [u'] (fun _ H9 => H9 = upd H8 s₂.heap.objs.size (.lst (xs ++ [v]))) I8 rfl (.cons r8 .nil) ⟨_, xs, v, rfl, rfl, hD8, by have := hxs.length; omega, rfl⟩) (fun u9 s9 h9 => ?_) fun _ _ z => z
        obtain ⟨v9, H9, I9, _, rfl⟩ := h9
        refine ⟨_, hm, i + 1, ρ1, σ6, _, Hf8, zs ++ [y], xs ++ [v], r', rfl, hil, I9.unpinned, T.keep _ _ _ st5 fun b hb o e => (I9.pin (b, o) (List.mem_append_right _ (List.mem_append_right _ (mem_pinsAt hb e)))).1, fun b hb => ?_, R8.rebase no1 hsd, no1, er, by rw [List.append_assoc]; exact hys, (hxs.mono R8.f0).append (.cons h8 .nil), by simp; omega, upd_same, hfD8, ?_⟩
        · obtain ⟨o, e, d⟩ := T.obj _ _ st5 b hb
          exact (I9.pin (b, o) (List.mem_append_right _ (List.mem_append_right _ (mem_pinsAt hb e)))).2.1
        · have g8 := gr'.trans R8.toGrows
          exact ⟨fun b o e => by rw [upd_ne (ne_of_none e hfD)]; exact g8.h b o e, g8.f, hsd, g8.new⟩
      · rw [if_neg Bool.false_ne_true]
        refine ⟨_, hm, i + 1, ρ1, σ6, _, Hf7, zs, xs, r, rfl, hil, I7.unpinned, T.keep _ _ _ st5 fun b hb o e => (I7.pin (b, o) (List.mem_append_right _ (List.mem_append_right _ (mem_pinsAt hb e)))).1, fun b hb => ?_, R7.rebase no1 R7.sf, no1, er, hys, hxs.mono R7.f0, by omega, R7.s0 _ _ hD', ?_, gr'.trans R7.toGrows⟩
        · obtain ⟨o, e, d⟩ := T.obj _ _ st5 b hb
          exact (I7.pin (b, o) (List.mem_append_right _ (List.mem_append_right _ (mem_pinsAt hb e)))).2.1
        · cases z : Hf7 s₂.heap.objs.size with
          | none => rfl
          | some o =>
            rcases R7.nf _ _ z with q | q | ⟨ks, rfl⟩
            · rw [hfD'] at q; cases q
            · rw [hD'] at q; cases q
            · have := (R7.s0 _ _ hD').symm.trans (R7.sf _ _ z); cases this
    · have : ds.drop i = [] := List.drop_eq_nil_of_le (by omega)
      rw [this] at go'
      cases go'
      rw [List.append_nil] at hys
      subst hys
      refine wpAny_mono (T.done (cxC X scope cl C (own ++ frees) s₂ H₂ fp) rfl rfl rfl hc i [] s' σ' H' (fun _ _ => False) I' (stat fr') st' (w2 (by omega))) (fun rv s4 ⟨hr, I4⟩ => ?_) fun _ _ z => z
      subst hr
      obtain ⟨m, hn, _⟩ := I4.loc
      have hch : ∀ b ∈ fp, (b ∈ X.ex ∨ X.s₀.heap.objs.size ≤ b) ∧ b ≠ X.env.locals ∧ (∀ x c, X.env.cells.lookup x = some c → c ≠ b) ∧ ∀ p ∈ X.pn ++ pins, p.1 ≠ b := fun b hb => ⟨(hfp b hb).2.2.2.1, (hfp b hb).2.1, (hfp b hb).2.2.2.2.1, (hfp b hb).2.2.2.2.2⟩
      exact hRR _ C s4 H' Hf' xs (I.call' (s' := s4) I4.os I4.base I4.hok I4.bare hch) ⟨m, hn⟩ (I.fpOk (by rw [hC]; exact Nat.le_succ _) I4.free) gr' hxs hD' hfD' hfD
  exact codeAny_compStart_list (loop _ rfl) (T.self _ 0 _ _ _ st1 (loop _ rfl))
theorem compF_some {n : Nat} {fi : FA} {γ : FG} {ft : FT} {f : FE} {ρ : Rho} {ys : List D} (h : compF n caps fi γ ft f ρ = some ys) : ∃ ds, fi ρ = some ds ∧ ds.length ≤ sizeLine ∧ compGo γ ft f ds (compS n caps ρ) = some ys := by
  obtain ⟨ds, e1, e2⟩ := bindA_some h
  split at e2
  · exact ⟨ds, e1, by assumption, e2⟩
  · cases e2
theorem comp_cl {pins : List (Addr × Obj)} {σ : St} {H : Hp} {s : Shared} (I : Inv X pins σ H s) (S : CompScope X.env.scope scope own frees) : ∃ cl, closureFor scope X.env = pure cl ∧ (∀ x c, cl.lookup x = some c → X.env.cells.lookup x = some c) ∧ ∀ n, (n, NameKind.free) ∈ scope.names → ∃ c, cl.lookup n = some c := by
  obtain ⟨cl, e1, e2, _, e4⟩ := closeGo_ex (env := X.env) scope.names [] (fun n hn => I.ok.has n (S.free (n, .free) hn rfl)) (fun x c e => by simp at e)
  exact ⟨cl, closureFor_go e1, e2, e4⟩
theorem dn_comp {tg elt iter : Expr} {ifs : List Expr} {pos : Pos} {fi : FA} {γ : FG} {ft : FT} {f : FE} (hc : X.calm = true) (S : CompScope X.env.scope scope own frees) (hcap : caps.map (fun j => X.N[j]?) = frees.map some) (kn : KeepsNo γ) (hi : DI X tg iter fi)
    (body : ∀ cl C s H fp, DG (cxC X scope cl C (own ++ frees) s H fp) tg γ ∧ DQ (cxC X scope cl C (own ++ frees) s H fp) ifs ft ∧ DE (cxC X scope cl C (own ++ frees) s H fp) elt f)
    (hs : ∀ x, foldedSetIterable iter X.env x = pure x := by intro _; rfl) : DN X (.ListComp elt [⟨tg, iter, ifs, 0⟩] scope pos) (compF own.length caps fi γ ft f) := by
  intro pins s σ H Q I h
  obtain ⟨H₀, Hf₀, ρ, Hf, ys, R, q, k⟩ := h
  obtain ⟨ds, e1, hz, e2⟩ := compF_some q
  obtain ⟨cl, hcl, c1, c2⟩ := comp_cl I S
  rw [eval_ListComp]
  refine wpAny_comprehension_free (use := none) rfl hs hcl S.kind S.loc (thn (hi pins s σ H (fun J H' => ∃ Hf', Rep X.K H₀ Hf₀ σ ρ H' Hf' ∧ Same H H' ∧ Same Hf Hf' ∧ Walks X.K Hf' J ds) I ⟨H₀, Hf₀, ρ, Hf, ds, R, e1, fun J H' Hf' R' s' t' wk => ⟨Hf', R', s', t', wk⟩⟩) fun v s1 h1 => thn h1 fun itv s2 h2 => ?_)
  obtain ⟨it, fp, tn, J, H2, rfl, I2, T, st2, f2, Hf2, R2, s2', t2', wk⟩ := h2
  refine comp_core (RR := compPost (model X.prog X.w) X.A X.xe none (EP X pins σ Q)) hc S hcap kn body c1 c2 I2 T st2 f2 R2 wk hz e2 ?_
  intro D C s' H' Hf' xs I' hns hfC gr hxs hD hfD hD0
  obtain ⟨m, hn⟩ := hns
  refine ⟨m, hn, fun h' hsb => ⟨.ref D, H', ?_, rfl, ?_⟩⟩
  · obtain ⟨f0, f1, f2, f3, f4, f5⟩ := hfC
    exact I'.turned (t' := s'.toks) (fun b o hb e => (hsb.2 b hb).trans e) f0 f1 f3 f4 f5
  · exact k D xs H' Hf' (R2.grows gr) (s2'.trans gr.h) (t2'.trans gr.f) hxs hD hfD (s2'.free hD0)
theorem wp_asgComp {tg elt iter : Expr} {ifs : List Expr} {y : Str} {py pos spos : Pos} {fi : FA} {γ : FG} {ft : FT} {f : FE} (hc : X.calm = true) (S : CompScope X.env.scope scope own frees) (hcap : caps.map (fun j => X.N[j]?) = frees.map some) (kn : KeepsNo γ) (hi : DI X tg iter fi)
    (body : ∀ cl C s H fp, DG (cxC X scope cl C (own ++ frees) s H fp) tg γ ∧ DQ (cxC X scope cl C (own ++ frees) s H fp) ifs ft ∧ DE (cxC X scope cl C (own ++ frees) s H fp) elt f)
    (hsw : swapsWith (.ListComp elt [⟨tg, iter, ifs, 0⟩] scope pos) (some (.Name y py)) spos.line X.env = pure true) (i : Nat) (hN : X.N.Nodup) (hiN : X.N[i]? = some y) (hy : X.env.scope.names.lookup y = some .local)
    (hs : ∀ x, foldedSetIterable iter X.env x = pure x) : PS X (.Assign [.Name y py] (.ListComp elt [⟨tg, iter, ifs, 0⟩] scope pos) spos) (fun D' σ H => ∃ H₀ Hf₀ ρ Hf ys, Rep X.K H₀ Hf₀ σ ρ H Hf ∧ compF own.length caps fi γ ft f ρ = some ys ∧
      ∀ a xs H' Hf', Rep X.K H₀ Hf₀ σ ρ H' Hf' → Same H H' → Same Hf Hf' → HasL X.K Hf' ys xs → H' a = some (.lst xs) → Hf' a = none → H a = none → D'.nx (σ.set i (some (.ref a))) H') := by
  intro pins s σ H D' I h
  obtain ⟨H₀, Hf₀, ρ, Hf, ys, R, q, k⟩ := h
  obtain ⟨ds, e1, hz, e2⟩ := compF_some q
  obtain ⟨cl, hcl, c1, c2⟩ := comp_cl I S
  rw [exec_Assign_Name_used _ _ _ _ hsw]
  refine wpAny_bind (wpAny_standAt (wpAny_bind ?_))
  show wpAny _ X.A (do let _ ← comprehension (.ListComp elt [⟨tg, iter, ifs, 0⟩] scope pos) scope X.env _ (newList []) false (eval iter X.env) (some (assign (.Name y py) X.env))) _ _ s
  refine wpAny_bind (wpAny_mono (wpAny_comprehension_free (use := some (assign (.Name y py) X.env)) (Q := fun _ s' => SP X pins D' .next s') rfl hs hcl S.kind S.loc
    (thn (hi pins s σ H (fun J H' => ∃ Hf', Rep X.K H₀ Hf₀ σ ρ H' Hf' ∧ Same H H' ∧ Same Hf Hf' ∧ Walks X.K Hf' J ds) I ⟨H₀, Hf₀, ρ, Hf, ds, R, e1, fun J H' Hf' R' s' t' wk => ⟨Hf', R', s', t', wk⟩⟩) fun v s1 h1 => thn h1 fun itv s2 h2 => ?_)) (fun _ s' hq => wpAny_pure (wpAny_pure hq)) fun _ _ e => e)
  obtain ⟨it, fp, tn, J, H2, rfl, I2, T, st2, f2, Hf2, R2, s2', t2', wk⟩ := h2
  refine comp_core (RR := compPost (model X.prog X.w) X.A X.xe (some (assign (.Name y py) X.env)) (fun _ s' => SP X pins D' .next s')) hc S hcap kn body c1 c2 I2 T st2 f2 R2 wk hz e2 ?_
  intro D C s' H' Hf' xs I' hns hfC gr hxs hD hfD hD0
  obtain ⟨m, hn⟩ := hns
  show wpAny _ X.A (assign (.Name y py) X.env (.ref D)) _ _ _
  refine wpAny_assign_Name (store_ok2 I' hN hiN (.inl hy) (show RelV (.ref D) (.ref D) from rfl) (fun s'' I'' hsb => ?_) (.inr hy))
  obtain ⟨a, hsb, ha⟩ := hsb
  obtain ⟨f0, f1, f2', f3, f4, f5⟩ := hfC
  have haC : a ≠ C := by
    rcases ha with z | z
    · rw [z]; exact Ne.symm f1
    · exact f4 _ _ z
  refine ⟨m, hn.sameBut hsb (Ne.symm haC), fun h' hsb' => ?_⟩
  exact ⟨_, H', I''.turned (t' := s''.toks) (fun b o hb e => (hsb'.2 b hb).trans e) f0 f1 f3 f4 f5, k D xs H' Hf' (R2.grows gr) (s2'.trans gr.h) (t2'.trans gr.f) hxs hD hfD (s2'.free hD0)⟩
end
end FL
set_option Elab.async false
set_option linter.all false
set_option maxRecDepth 100000
set_option maxHeartbeats 4000000
namespace FL
open PySem PySem.Spec PyProof.Rows L2
section
variable {prog : Program} {w : World} {A : Around} {E : Value → Shared → Prop} {s : Shared}
end
end FL
set_option Elab.async false
set_option linter.all false
set_option maxRecDepth 100000
set_option maxHeartbeats 4000000
namespace FL
open PySem PySem.Spec PyProof.Rows L2
theorem turned1 {X : Cx} {pins : List (Addr × Obj)} {σ : St} {H : Hp} {s : Shared} {h' : Heap} {t' : Nat} {b : Addr} (I : Inv X pins σ H s) (hs : Heap.SameBut b s.heap h') (f : FpOk X pins H b) : Inv X pins σ H { s with heap := h', toks := t' } := by
  obtain ⟨f0, f1, f2, f3, f4, f5⟩ := f
  exact I.turned (t' := t') (fun c o hb q => (hs.2 c hb).trans q) f0 f1 f3 f4 f5
section
variable {P : Program} {w : World} {K : PySem.W.Frag} {J1 J2 : It} {fp1 fp2 : List Addr} {i1 i2 z TI TO : Addr} {tn1 tn2 : Nat → Heap → Prop}
end
end FL
set_option Elab.async false
set_option linter.all false
set_option maxRecDepth 100000
set_option maxHeartbeats 4000000
namespace FL
open PySem PySem.Spec PyProof.Rows L2
section
variable {prog : Program} {w : World} {A : Around} {E : Value → Shared → Prop} {s : Shared}
end
end FL
set_option Elab.async false
set_option linter.all false
set_option maxRecDepth 100000
set_option maxHeartbeats 4000000
namespace FL
open PySem PySem.Spec PyProof.Rows L2
theorem walks_list {K : PySem.W.Frag} {Hf : Hp} {a : Addr} {xs : List V} {ds : List D} (qa : SqL K Hf a xs) (la : HasL K Hf ds xs) : Walks K Hf (Itl K a) ds := fun H2 Hf2 t2 sf2 i => by
  refine ⟨fun d hd => ?_, fun hle => ⟨xs, sf2.seq (t2.seq qa), by rw [la.length]; exact hle⟩⟩
  obtain ⟨v, e3, e4⟩ := la.get hd
  have sq : SqL K H2 a xs := sf2.seq (t2.seq qa)
  refine ⟨⟨xs, v, sq, e3⟩, fun x H3 hy => ?_⟩
  obtain ⟨rfl, hy⟩ := hy
  have := hy xs sq
  rw [e3] at this
  cases this
  exact ⟨Hf2, Grows.refl sf2, e4.mono t2⟩
theorem walks_tup {K : PySem.W.Frag} {Hf : Hp} {a : Addr} {xs : List V} {ds : List D} (qa : SqT K Hf a xs) (la : HasL K Hf ds xs) : Walks K Hf (Itt K a) ds := fun H2 Hf2 t2 sf2 i => by
  refine ⟨fun d hd => ?_, fun hle => ⟨xs, sameT sf2 (sameT t2 qa), by rw [la.length]; exact hle⟩⟩
  obtain ⟨v, e3, e4⟩ := la.get hd
  have sq : SqT K H2 a xs := sameT sf2 (sameT t2 qa)
  refine ⟨⟨xs, v, sq, e3⟩, fun x H3 hy => ?_⟩
  obtain ⟨rfl, hy⟩ := hy
  have := hy xs sq
  rw [e3] at this
  cases this
  exact ⟨Hf2, Grows.refl sf2, e4.mono t2⟩
section
variable {X : Cx} {e e1 e2 : Expr} {f f1 f2 : FE} {pos : Pos} {elts : List Expr} {kx : Nat} {tp : Pos}
end
end FL
set_option Elab.async false
set_option linter.all false
set_option maxRecDepth 100000
set_option maxHeartbeats 4000000
namespace FL
open PySem PySem.Spec PyProof.Rows L2
section
variable {prog : Program} {w : World} {A : Around} {E : Value → Shared → Prop} {s : Shared}
theorem getItem_tuple_all {t sl : Addr} {items : Array Value} {vl vu : Value} {lo hi : Option Int} {Q : Value → Shared → Prop} (ht : IsTup s.heap t items) (hs : s.heap.IsSliceOf sl vl vu .none) (pl : IsPart vl lo) (pu : IsPart vu hi)
    (hw : HT.sIx items.size 0 lo = 0 ∧ HT.sIx items.size items.size hi = items.size) (h : Q (.ref t) s) : wpAny (model prog w) A (getItem (.ref t) (.ref sl)) Q E s := by
  obtain ⟨os, hos, hcs, hds⟩ := id hs
  have hTs : s.TypeIs (.ref sl) "slice" := ⟨os, hos, hcs⟩
  unfold getItem
  try with_reducible refine wpAny_holding ?_
  first | refine wpAny_bind (wpAny_pure ?_) | skip
  refine wpAny_bind (wpAny_sequenceKey ht.typeIs (by decide) ?_)
  refine wpAny_bind (wpAny_callSpecial?_slot (name := Str.ofString "__getitem__") ht.typeIs PyProof.Rows.slot_tuple_getitem
    (wpAny_call_entry PyProof.Rows.slot_tuple_getitem ht.typeIs entry_tuple_getitem ?_ (args_tuple_getitem _ _)))
  show wpAny _ _ (Builtin.Tuple.tupleItemsOf (.ref t) >>= _) _ _ s
  refine wpAny_bind (tupleItemsOf_ ht ?_)
  refine wpAny_bind (wpAny_typeOf hTs ?_)
  rw [if_pos (by decide)]
  refine wpAny_bind (HT.sliceApplied_gen hs pl pu ?_)
  rw [hw.1, hw.2]
  show wpAny _ _ (if (((0 : Nat) : Int) == 0 && (1 : Int) == 1 && (items.size - 0) == items.size) = true then _ else _) _ _ s
  rw [if_pos (by simp)]
  show wpAny _ _ (Builtin.Tuple.tupleIsExact (.ref t) >>= _) _ _ s
  unfold Builtin.Tuple.tupleIsExact
  refine wpAny_bind (wpAny_bind (wpAny_typeOf ht.typeIs (wpAny_pure ?_)))
  rw [if_pos (by decide)]
  refine wpAny_bind (wpAny_rule ?_)
  exact wpAny_pure ⟨_, rfl, wpAny_pure h⟩
open PySem.AutoSeq1 (wpAny_loadPart') in
theorem tuple_addW0 (l b : Addr) (items2 : Array Value) (n n2 : Nat) (dd dd2 : Option Addr) (sl sl2 : Array (Option Value)) :
    Meets (Builtin.«tuple.__add__» ⟨[.ref l, .ref b], []⟩) (fun _ R s => s.heap.get? l = some { cls := .type "tuple", dict := dd, data := .seq #[] n, slots := sl } ∧ s.heap.get? b = some { cls := .type "tuple", dict := dd2, data := .seq items2 n2, slots := sl2 } ∧ R (.ok (.ret (.ref b))) s) :=
  .of_wp fun prog w A R s h => by
    obtain ⟨hp, g, d, tk, os⟩ := s; obtain ⟨hl, hb, h⟩ := h
    have f2 := AutoSeq1.sub_tuple_tuple
    wp_walk using wpAny_loadPart' hl, wpAny_loadPart' hb
    exact ⟨_, rfl, h⟩
theorem cat_tup0 {t b : Addr} {ws : List Value} {Q : Value → Shared → Prop} (ht : IsTup s.heap t #[]) (hb : IsTup s.heap b ws.toArray) (h : Q (.ref b) s) : wpAny (model prog w) A (binaryOp .Add (.ref t) (.ref b)) Q E s := by
  obtain ⟨⟨cls, dd, data, sl⟩, ho, hc, n, hd⟩ := id ht
  obtain ⟨⟨cls2, dd2, data2, sl2⟩, ho2, hc2, n2, hd2⟩ := id hb
  simp only at hc hd hc2 hd2
  subst hc hd hc2 hd2
  exact concat_meets ⟨_, ho, rfl⟩ ⟨_, ho2, rfl⟩ noFill_tuple_add seq_tuple_add PySem.F.slot_tuple_add PySem.F.entry_tuple_add (PySem.F.args_tuple_add_2 _ _) (tuple_addW0 t b ws.toArray n n2 dd dd2 sl sl2) ⟨ho, ho2, h⟩
end
end FL
set_option Elab.async false
set_option linter.all false
set_option maxRecDepth 100000
set_option maxHeartbeats 4000000
namespace FL
open PySem PySem.Spec PyProof.Rows L2
section
variable {X : Cx}
def rCatTG (K : PySem.W.Frag) : R2 := fun x y H Q => ∃ a b xs ys, x = .ref a ∧ y = .ref b ∧ SqT K H a xs ∧ SqT K H b ys ∧ xs.length + ys.length ≤ sizeLine ∧
  (xs = [] → Q (.ref b) H) ∧ (xs ≠ [] → ys = [] → Q (.ref a) H) ∧ (xs ≠ [] → ys ≠ [] → ∀ p, H p = none → Q (.ref p) (upd H p (.tup (xs ++ ys))))
theorem op_catTG : OpR X (binaryOp .Add) (rCatTG X.K) := by
  intro pins s σ H x y v u Q I rx ry h
  obtain ⟨a, b, xs, ys, rfl, rfl, ha, hb, hz, q0, q1, q2⟩ := h
  by_cases hx : xs = []
  · subst hx
    cases rx
    cases ry
    obtain ⟨its, r1, p1, _⟩ := I.tuple ha
    obtain ⟨its2, r2, p2, _⟩ := I.tuple hb
    cases r1
    exact cat_tup0 p1 p2 ⟨.ref b, H, I, rfl, q0 rfl⟩
  · exact op_catT pins s σ H _ _ v u Q I rx ry ⟨a, b, xs, ys, rfl, rfl, ha, hb, hx, hz, q1 hx, q2 hx⟩
def rCatLG (K : PySem.W.Frag) : R2 := fun x y H Q => ∃ a b xs ys, x = .ref a ∧ y = .ref b ∧ SqL K H a xs ∧ SqL K H b ys ∧ xs.length + ys.length ≤ sizeLine ∧ ∀ p, H p = none → Q (.ref p) (upd H p (.lst (xs ++ ys)))
theorem op_catLG : OpR X (binaryOp .Add) (rCatLG X.K) := by
  intro pins s σ H x y v u Q I rx ry h
  obtain ⟨a, b, xs, ys, rfl, rfl, ha, hb, hz, q⟩ := h
  cases rx
  cases ry
  obtain ⟨its, r1, p1, _⟩ := I.list ha
  obtain ⟨its2, r2, p2, _⟩ := I.list hb
  obtain ⟨⟨cls, dd, data, sl⟩, ho, hc, n, hd⟩ := id p1.isList
  obtain ⟨⟨cls2, dd2, data2, sl2⟩, ho2, hc2, n2, hd2⟩ := id p2.isList
  simp only at hc hd hc2 hd2
  subst hc hd hc2 hd2
  have e : its.toArray ++ its2.toArray = (its ++ its2).toArray := by simp
  have hsz : its.toArray.size + its2.toArray.size ≤ sizeLine := by
    rw [List.size_toArray, List.size_toArray, ← r1.length, ← r2.length]; exact hz
  refine concat_meets ⟨_, ho, rfl⟩ ⟨_, ho2, rfl⟩ noFill_list_add seq_list_add PySem.F.slot_list_add PySem.F.entry_list_add (PySem.F.args_list_add_2 _ _) (list_addW a b its.toArray its2.toArray n n2 dd dd2 sl sl2 hsz) ⟨ho, ho2, ?_⟩
  rw [e]
  exact ⟨.ref _, _, I.lnew (t' := s.toks) (r1.append r2) (by rw [List.length_append]; exact hz), rfl, q _ I.fresh⟩
def rAddX (K : PySem.W.Frag) : R2 := fun x y H Q => rI0 (fun i j => .int (i + j)) x y H Q ∨ (∃ i j, x = .str i ∧ y = .str j ∧ i.length + j.length ≤ sizeLine ∧ Q (.str (i ++ j)) H) ∨ rCatTG K x y H Q ∨ rCatLG K x y H Q
theorem op_addX : OpR X (binaryOp .Add) (rAddX X.K) := op_add.or (op_add_str.or (op_catTG.or op_catLG))
def addX : D → D → Option D
  | .int i, .int j => some (.int (i + j))
  | .str x, .str y => if x.length + y.length ≤ sizeLine then some (.str (x ++ y)) else none
  | .tup xs, .tup ys => if xs.length + ys.length ≤ sizeLine then some (.tup (xs ++ ys)) else none
  | .lst xs, .lst ys => if xs.length + ys.length ≤ sizeLine then some (.lst (xs ++ ys)) else none
  | _, _ => none
theorem HasL.nil_of {K : PySem.W.Frag} {H : Hp} {ds : List D} {xs : List V} (h : HasL K H ds xs) : xs = [] ↔ ds = [] := by
  have := h.length
  constructor
  · intro e; subst e; exact List.eq_nil_of_length_eq_zero this.symm
  · intro e; subst e; exact List.eq_nil_of_length_eq_zero this
theorem HasR.tupF {K : PySem.W.Frag} {Hf : Hp} {σ : St} {ρ : Rho} {ds : List D} {v : V} (h : HasR K Hf σ ρ (.tup ds) v) : Has K Hf (.tup ds) v := by
  rcases h with h | ⟨_, _, e, _⟩
  · exact h
  · cases e
theorem opD_addX : OpD X (rAddX X.K) addX := by
  intro σ ρ H₀ Hf₀ H Hf x y dx dy d Q R hx hy hφ k
  unfold addX at hφ
  split at hφ
  · cases hφ
    exact .inl ⟨_, _, hx.int, hy.int, k _ _ _ R sameR sameR (Has.int_iff.mpr rfl)⟩
  · split at hφ
    · cases hφ
      exact .inr (.inl ⟨_, _, hx.str, hy.str, by assumption, k _ _ _ R sameR sameR (Has.str_iff.mpr rfl)⟩)
    · cases hφ
  · split at hφ
    · cases hφ
      rename_i xs ys hz
      obtain ⟨a, vs, rfl, qa, la⟩ := hx.tup R
      obtain ⟨b, ws, rfl, qb, lb⟩ := hy.tup R
      refine .inr (.inr (.inl ⟨a, b, vs, ws, rfl, rfl, qa, qb, by rw [la.length, lb.length]; exact hz, fun e => ?_, fun _ e => ?_, fun _ _ p hp => ?_⟩))
      · cases la.nil_of.mp e
        exact k _ _ _ R sameR sameR (by rw [List.nil_append]; exact hy.tupF)
      · cases lb.nil_of.mp e
        exact k _ _ _ R sameR sameR (by rw [List.append_nil]; exact hx.tupF)
      · have sm := same_upd (o := .tup (vs ++ ws)) (R.sf.free hp)
        exact k _ _ _ (R.lay hp) (same_upd hp) sm (Has.tup_iff.mpr ⟨p, _, rfl, SqT.of upd_same, (la.append lb).mono sm⟩)
    · cases hφ
  · split at hφ
    · cases hφ
      rename_i xs ys hz
      obtain ⟨a, vs, rfl, qa, la⟩ := hx.lst R
      obtain ⟨b, ws, rfl, qb, lb⟩ := hy.lst R
      refine .inr (.inr (.inr ⟨a, b, vs, ws, rfl, rfl, qa, qb, by rw [la.length, lb.length]; exact hz, fun p hp => ?_⟩))
      have sm := same_upd (o := .lst (vs ++ ws)) (R.sf.free hp)
      exact k _ _ _ (R.lay hp) (same_upd hp) sm (Has.lst_iff.mpr ⟨p, _, rfl, SqL.of upd_same, (la.append lb).mono sm⟩)
    · cases hφ
  · cases hφ
variable {a b c e : Expr} {f g h : FE} {pos p2 : Pos}
theorem d_addX (ha : DR X a f) (hb : DR X b g) : DE X (.BinOp a .Add b pos) (bind2 addX f g) := d_op op_addX opD_addX ha hb
abbrev FP := Rho → Option (Option Int)
def noP : FP := fun _ => some none
def exP (f : FE) : FP := fun ρ => (f ρ).bind fun | .int i => some (some i) | _ => none
def tP (K : PySem.W.Frag) (f : FP) : TO := fun σ H Q => ∃ H₀ Hf₀ ρ Hf o, Rep K H₀ Hf₀ σ ρ H Hf ∧ f ρ = some o ∧ ∀ H' Hf', Rep K H₀ Hf₀ σ ρ H' Hf' → Same H H' → Same Hf Hf' → Q o H'
def DP (X : Cx) (e : Option Expr) (f : FP) : Prop := PO X e (tP X.K f)
theorem po_imp {e : Option Expr} {t t' : TO} (h : PO X e t) (i : ∀ σ H Q, t' σ H Q → t σ H Q) : PO X e t' := fun pins s σ H Q I hw => h pins s σ H Q I (i _ _ _ hw)
theorem dp_no : DP X none noP := po_imp po_none fun σ H Q ⟨H₀, Hf₀, ρ, Hf, d, R, q, k⟩ => by cases q; exact k _ _ R sameR sameR
theorem dp_ex (h : DR X e f) : DP X (some e) (exP f) := po_imp (po_some h) fun σ H Q ⟨H₀, Hf₀, ρ, Hf, d, R, q, k⟩ => by
  obtain ⟨x, e1, e2⟩ := bindV_some q
  cases x <;> try cases e2
  exact ⟨H₀, Hf₀, ρ, Hf, _, R, e1, fun v H1 Hf1 R1 s1 t1 h1 => ⟨_, h1.int, k _ _ R1 s1 t1⟩⟩
def cutL {α : Type} (xs : List α) (lo hi : Option Int) : List α := (xs.drop (HT.sIx xs.length 0 lo)).take (HT.sIx xs.length xs.length hi - HT.sIx xs.length 0 lo)
theorem HasL.cut {K : PySem.W.Frag} {H : Hp} {ds : List D} {xs : List V} (h : HasL K H ds xs) (lo hi : Option Int) : HasL K H (cutL ds lo hi) (cutV xs lo hi) := by
  unfold cutL cutV
  rw [h.length]
  exact (h.drop _).take _
def rSlTG (K : PySem.W.Frag) : V → Option Int → Option Int → Hp → VK → Prop := fun x lo hi H Q => ∃ a xs, x = .ref a ∧ SqT K H a xs ∧
  ((HT.sIx xs.length 0 lo = 0 ∧ HT.sIx xs.length xs.length hi = xs.length) → Q (.ref a) H) ∧ (¬ (HT.sIx xs.length 0 lo = 0 ∧ HT.sIx xs.length xs.length hi = xs.length) → ∀ p, H p = none → Q (.ref p) (upd H p (.tup (cutV xs lo hi))))
theorem sl_tupG : SlR X (rSlTG X.K) := by
  intro pins s σ H x v vl vu lo hi sl Q I rx hs pl pu h
  obtain ⟨a, xs, rfl, hx, q1, q2⟩ := h
  by_cases hw : HT.sIx xs.length 0 lo = 0 ∧ HT.sIx xs.length xs.length hi = xs.length
  · cases rx
    obtain ⟨its, r, ht, hz⟩ := I.tuple hx
    have hlen : its.toArray.size = xs.length := by rw [List.size_toArray]; exact r.length.symm
    refine ⟨"tuple", _, PyProof.Rows.slot_tuple_getitem.lookup, ht.typeIs, ?_⟩
    exact getItem_tuple_all ht hs pl pu (by rw [hlen]; exact hw) ⟨.ref a, H, I, rfl, q1 hw⟩
  · exact sl_tup pins s σ H _ v vl vu lo hi sl Q I rx hs pl pu ⟨a, xs, rfl, hx, hw, q2 hw⟩
theorem cut_whole {ds : List D} {lo hi : Option Int} (h : HT.sIx ds.length 0 lo = 0 ∧ HT.sIx ds.length ds.length hi = ds.length) : cutL ds lo hi = ds := by
  unfold cutL
  rw [h.1, h.2]
  simp
section
variable {X : Cx} {a b c e st : Expr} {f g h fs : FE} {pos p2 : Pos}
theorem bind2_some {α : Type} {f g : FE} {k : D → D → Option α} {ρ : Rho} {r : α} (h : ((f ρ).bind fun x => (g ρ).bind fun y => k x y) = some r) : ∃ x y, f ρ = some x ∧ g ρ = some y ∧ k x y = some r := by
  obtain ⟨x, e1, e2⟩ := bindV_some h
  obtain ⟨y, e3, e4⟩ := bindV_some e2
  exact ⟨x, y, e1, e3, e4⟩
end
end
end FL
set_option Elab.async false
set_option linter.all false
set_option maxRecDepth 100000
set_option maxHeartbeats 4000000
namespace FL
open PySem PySem.Spec PyProof.Rows L2
theorem relV_inj {y y' : V} {u : Value} {K : PySem.W.Frag} {H : Hp} {d d' : D} (h : Has K H d y) (h' : Has K H d' y') (r : RelV y u) (r' : RelV y' u) : y = y' := by
  cases d with
  | non =>
    cases Has.non_iff.mp h
    cases r
    cases d' with
    | non => cases Has.non_iff.mp h'; rfl
    | bl _ => cases Has.bl_iff.mp h'; cases r'
    | int _ => cases Has.int_iff.mp h'; obtain ⟨t, e⟩ := r'; cases e
    | str _ => cases Has.str_iff.mp h'; obtain ⟨t, e⟩ := r'; cases e
    | tup _ => obtain ⟨_, _, rfl, _⟩ := Has.tup_iff.mp h'; cases r'
    | lst _ => obtain ⟨_, _, rfl, _⟩ := Has.lst_iff.mp h'; cases r'
  | bl b =>
    cases Has.bl_iff.mp h
    cases r
    cases d' with
    | non => cases Has.non_iff.mp h'; cases r'
    | bl _ => cases Has.bl_iff.mp h'; cases r'; rfl
    | int _ => cases Has.int_iff.mp h'; obtain ⟨t, e⟩ := r'; cases e
    | str _ => cases Has.str_iff.mp h'; obtain ⟨t, e⟩ := r'; cases e
    | tup _ => obtain ⟨_, _, rfl, _⟩ := Has.tup_iff.mp h'; cases r'
    | lst _ => obtain ⟨_, _, rfl, _⟩ := Has.lst_iff.mp h'; cases r'
  | int b =>
    cases Has.int_iff.mp h
    obtain ⟨t0, rfl⟩ := r
    cases d' with
    | non => cases Has.non_iff.mp h'; cases r'
    | bl _ => cases Has.bl_iff.mp h'; cases r'
    | int _ => cases Has.int_iff.mp h'; obtain ⟨t, e⟩ := r'; cases e; rfl
    | str _ => cases Has.str_iff.mp h'; obtain ⟨t, e⟩ := r'; cases e
    | tup _ => obtain ⟨_, _, rfl, _⟩ := Has.tup_iff.mp h'; cases r'
    | lst _ => obtain ⟨_, _, rfl, _⟩ := Has.lst_iff.mp h'; cases r'
  | str b =>
    cases Has.str_iff.mp h
    obtain ⟨t0, rfl⟩ := r
    cases d' with
    | non => cases Has.non_iff.mp h'; cases r'
    | bl _ => cases Has.bl_iff.mp h'; cases r'
    | int _ => cases Has.int_iff.mp h'; obtain ⟨t, e⟩ := r'; cases e
    | str _ => cases Has.str_iff.mp h'; obtain ⟨t, e⟩ := r'; cases e; rfl
    | tup _ => obtain ⟨_, _, rfl, _⟩ := Has.tup_iff.mp h'; cases r'
    | lst _ => obtain ⟨_, _, rfl, _⟩ := Has.lst_iff.mp h'; cases r'
  | tup ds =>
    obtain ⟨a, _, rfl, _⟩ := Has.tup_iff.mp h
    cases r
    cases d' with
    | non => cases Has.non_iff.mp h'; cases r'
    | bl _ => cases Has.bl_iff.mp h'; cases r'
    | int _ => cases Has.int_iff.mp h'; obtain ⟨t, e⟩ := r'; cases e
    | str _ => cases Has.str_iff.mp h'; obtain ⟨t, e⟩ := r'; cases e
    | tup _ => obtain ⟨_, _, rfl, _⟩ := Has.tup_iff.mp h'; cases r'; rfl
    | lst _ => obtain ⟨_, _, rfl, _⟩ := Has.lst_iff.mp h'; cases r'; rfl
  | lst ds =>
    obtain ⟨a, _, rfl, _⟩ := Has.lst_iff.mp h
    cases r
    cases d' with
    | non => cases Has.non_iff.mp h'; cases r'
    | bl _ => cases Has.bl_iff.mp h'; cases r'
    | int _ => cases Has.int_iff.mp h'; obtain ⟨t, e⟩ := r'; cases e
    | str _ => cases Has.str_iff.mp h'; obtain ⟨t, e⟩ := r'; cases e
    | tup _ => obtain ⟨_, _, rfl, _⟩ := Has.tup_iff.mp h'; cases r'; rfl
    | lst _ => obtain ⟨_, _, rfl, _⟩ := Has.lst_iff.mp h'; cases r'; rfl
open Classical in
/-- an item's answer, read off its datum -/
noncomputable def ansU (K : PySem.W.Frag) (H : Hp) (dx : D) (u : Value) : Bool := decide (∃ d y, RelV y u ∧ Has K H d y ∧ eqD d dx = true)
section
variable {X : Cx} {pins : List (Addr × Obj)} {σ : St} {H : Hp} {s : Shared}
open Classical in
theorem ansU_of (I : Inv X pins σ H s) {dx d : D} {y : V} {u : Value} (r : RelV y u) (h : Has X.K H d y) : ansU X.K H dx u = eqD d dx := by
  unfold ansU
  cases hq : eqD d dx with
  | true => exact decide_eq_true ⟨d, y, r, h, hq⟩
  | false =>
    refine decide_eq_false ?_
    rintro ⟨d', y', r', h', e'⟩
    cases relV_inj h' h r' r
    cases Has.inj I h' h
    rw [hq] at e'; cases e'
theorem any_ansU (I : Inv X pins σ H s) {dx : D} : ∀ {ds : List D} {xs : List V} {us : List Value}, HasL X.K H ds xs → Vals xs us → us.any (ansU X.K H dx) = ds.any fun d => eqD d dx
  | [], _, _, h, r => by rw [HasL.nil_iff] at h; subst h; cases r; rfl
  | d :: ds, _, _, h, r => by
    obtain ⟨x, xr, rfl, h1, h2⟩ := HasL.cons_iff.mp h
    cases r with
    | cons r rr => rw [List.any_cons, List.any_cons, ansU_of I r h1, any_ansU I h2 rr]
theorem mem_ansU (I : Inv X pins σ H s) {A : Around} {dx : D} {x : V} {v : Value} (hx : Has X.K H dx x) (rx : RelV x v) : ∀ {ds : List D} {xs : List V} {us : List Value}, HasL X.K H ds xs → Vals xs us → A.units + depL ds < cLine → ∀ u ∈ us, SeqAt.EqAt A s u v (ansU X.K H dx u)
  | [], _, _, h, r, _ => by rw [HasL.nil_iff] at h; subst h; cases r; intro u hu; cases hu
  | d :: ds, _, _, h, r, hu => by
    obtain ⟨y, yr, rfl, h1, h2⟩ := HasL.cons_iff.mp h
    unfold depL at hu
    cases r with
    | cons r rr =>
      intro u' hu'
      rcases List.mem_cons.mp hu' with rfl | hm
      · rw [ansU_of I r h1]
        exact eqAt_of I d A dx y x _ v h1 hx r rx (by have := Nat.le_max_left (dep d) (depL ds); omega)
      · exact mem_ansU I hx rx h2 rr (by have := Nat.le_max_right (dep d) (depL ds); omega) u' hm
end
section
variable {X : Cx} {e a b c : Expr} {f g h : FE} {pos p2 : Pos} {kk : Nat}
def inS (x z : Str) : Bool := !(Builtin.Str.occurrences z x 0 z.length 1).isEmpty
def rInD (K : PySem.W.Frag) (neg : Bool) : R2 := fun x y H Q => (∃ p ds xs dx, y = .ref p ∧ (SqL K H p xs ∨ SqT K H p xs) ∧ HasL K H ds xs ∧ Has K H dx x ∧ depL ds ≤ 100 ∧ Q (.bl (xor neg (ds.any fun d => eqD d dx))) H) ∨
  (∃ i j, x = .str i ∧ y = .str j ∧ Q (.bl (xor neg (inS i j))) H)
theorem op_inD (hr : Room kk X.A) : OpR X (compareOp .In) (rInD X.K false) := by
  intro pins s σ H x y v u Q I rx ry h
  rcases h with ⟨p, ds, xs, dx, rfl, hq, hl, hx, hd, q⟩ | h
  · cases ry
    have hu : X.A.in1.units + depL ds < cLine := by show X.A.units + 1 + depL ds < cLine; have := hr.un; omega
    simp only [Bool.false_xor] at q
    rcases hq with hq | hq
    · obtain ⟨its, r, pl, hz⟩ := I.list hq
      refine SeqAt.in_listAt (ansU X.K H dx) pl.isList (fun w hw => mem_ansU I hx rx hl r hu w (by simpa using hw)) ⟨.bl _, H, I, rfl, ?_⟩
      rw [show its.toArray.any (ansU X.K H dx) = its.any (ansU X.K H dx) by simp, any_ansU I hl r]
      exact q
    · obtain ⟨its, r, pl, hz⟩ := I.tuple hq
      refine SeqAt.in_tupleAt (ansU X.K H dx) pl (fun w hw => mem_ansU I hx rx hl r hu w (by simpa using hw)) ⟨.bl _, H, I, rfl, ?_⟩
      rw [show its.toArray.any (ansU X.K H dx) = its.any (ansU X.K H dx) by simp, any_ansU I hl r]
      exact q
  · obtain ⟨i, j, e1, e2, q⟩ := h
    exact op_in_str pins s σ H x y v u Q I rx ry ⟨i, j, e1, e2, by simpa [inS] using q⟩
theorem op_notInD (hr : Room kk X.A) : OpR X (compareOp .NotIn) (rInD X.K true) := by
  intro pins s σ H x y v u Q I rx ry h
  rcases h with ⟨p, ds, xs, dx, rfl, hq, hl, hx, hd, q⟩ | h
  · cases ry
    have hu : X.A.in1.units + depL ds < cLine := by show X.A.units + 1 + depL ds < cLine; have := hr.un; omega
    simp only [Bool.true_xor] at q
    rcases hq with hq | hq
    · obtain ⟨its, r, pl, hz⟩ := I.list hq
      refine SeqAt.notIn_listAt (ansU X.K H dx) pl.isList (fun w hw => mem_ansU I hx rx hl r hu w (by simpa using hw)) ⟨.bl _, H, I, rfl, ?_⟩
      rw [show its.toArray.any (ansU X.K H dx) = its.any (ansU X.K H dx) by simp, any_ansU I hl r]
      exact q
    · obtain ⟨its, r, pl, hz⟩ := I.tuple hq
      refine SeqAt.notIn_tupleAt (ansU X.K H dx) pl (fun w hw => mem_ansU I hx rx hl r hu w (by simpa using hw)) ⟨.bl _, H, I, rfl, ?_⟩
      rw [show its.toArray.any (ansU X.K H dx) = its.any (ansU X.K H dx) by simp, any_ansU I hl r]
      exact q
  · obtain ⟨i, j, e1, e2, q⟩ := h
    exact op_notin_str pins s σ H x y v u Q I rx ry ⟨i, j, e1, e2, by simpa [inS] using q⟩
def inD (neg : Bool) : D → D → Option D
  | x, .lst ds => if depL ds ≤ 100 then some (.bl (xor neg (ds.any fun d => eqD d x))) else none
  | x, .tup ds => if depL ds ≤ 100 then some (.bl (xor neg (ds.any fun d => eqD d x))) else none
  | .str x, .str z => some (.bl (xor neg (inS x z)))
  | _, _ => none
theorem opD_in {neg : Bool} : OpD X (rInD X.K neg) (inD neg) := by
  intro σ ρ H₀ Hf₀ H Hf x y dx dy d Q R hx hy hφ k
  unfold inD at hφ
  split at hφ
  · split at hφ
    · cases hφ
      rename_i hd
      obtain ⟨a, xs, rfl, qa, la⟩ := hy.lst R
      exact .inl ⟨a, _, xs, dx, rfl, .inl qa, la.mono R.sf, hx.full R, hd, k _ _ _ R sameR sameR (Has.bl_iff.mpr rfl)⟩
    · cases hφ
  · split at hφ
    · cases hφ
      rename_i hd
      obtain ⟨a, xs, rfl, qa, la⟩ := hy.tup R
      exact .inl ⟨a, _, xs, dx, rfl, .inr qa, la.mono R.sf, hx.full R, hd, k _ _ _ R sameR sameR (Has.bl_iff.mpr rfl)⟩
    · cases hφ
  · cases hφ
    exact .inr ⟨_, _, hx.str, hy.str, k _ _ _ R sameR sameR (Has.bl_iff.mpr rfl)⟩
  · cases hφ
theorem d_in (hr : Room kk X.A) (ha : DR X a f) (hb : DR X b g) (hm : behindInMarks .In b = false := by rfl) : DE X (.Compare a [.In] [b] pos) (bind2 (inD false) f g) := d_cmp (op_inD hr) opD_in ha hb hm
theorem dt_notin (hr : Room kk X.A) (ha : DR X a f) (hb : DR X b g) (hm : behindInMarks .NotIn b = false := by rfl) : DT X (.Compare a [.NotIn] [b] pos) (blF (bind2 (inD true) f g)) := pt_of_cmp (op_notInD hr) opD_in ha hb hm
def chainF (φ ψ : D → D → Option D) (f g h : FE) : FE := fun ρ => (f ρ).bind fun x => (g ρ).bind fun y => (φ x y).bind fun
  | .bl true => (h ρ).bind fun z => ψ y z
  | .bl false => some (.bl false)
  | _ => none
theorem tChain_of {r r' : R2} {φ ψ : D → D → Option D} (hφ : OpD X r φ) (hψ : OpD X r' ψ) (σ : St) (H : Hp) (Q : VK) (hh : tF X.K (chainF φ ψ f g h) σ H Q) : tChain r r' (tR X.K f) (tR X.K g) (tR X.K h) σ H Q := by
  obtain ⟨H₀, Hf₀, ρ, Hf, d, R, q, k⟩ := hh
  obtain ⟨x, y, e1, e2, e3⟩ := bind2_some q
  obtain ⟨z, e4, e5⟩ : ∃ z, φ x y = some z ∧ _ = some d := by
    cases hz : φ x y with
    | none => rw [hz] at e3; cases e3
    | some z => rw [hz] at e3; exact ⟨z, rfl, e3⟩
  refine ⟨H₀, Hf₀, ρ, Hf, x, R, e1, fun v H1 Hf1 R1 s1 t1 h1 => ⟨H₀, Hf₀, ρ, Hf1, y, R1, e2, fun v' H2 Hf2 R2 s2 t2 h2 => ?_⟩⟩
  refine hφ σ ρ H₀ Hf₀ H2 Hf2 v v' x y z _ R2 (h1.mono t2) h2 e4 fun w H3 Hf3 R3 s3 t3 h3 => ?_
  cases z with
  | bl b =>
    refine ⟨b, Has.bl_iff.mp h3, ?_⟩
    cases b with
    | true =>
      obtain ⟨z', e6, e7⟩ := bindV_some e5
      refine iteT ⟨H₀, Hf₀, ρ, Hf3, z', R3, e6, fun w' H4 Hf4 R4 s4 t4 h4 => ?_⟩
      exact hψ σ ρ H₀ Hf₀ H4 Hf4 v' w' y z' d Q R4 ((h2.mono t3).mono t4) h4 e7 fun u H5 Hf5 R5 s5 t5 h5 => k _ _ _ R5 ((((s1.trans s2).trans s3).trans s4).trans s5) ((((t1.trans t2).trans t3).trans t4).trans t5) h5
    | false =>
      cases e5
      exact iteF (k _ _ _ R3 ((s1.trans s2).trans s3) ((t1.trans t2).trans t3) (Has.bl_iff.mpr rfl))
  | _ => cases e5
theorem dt_chain {op op' : CmpOp} {r r' : R2} {φ ψ : D → D → Option D} (ho : OpR X (compareOp op) r) (ho' : OpR X (compareOp op') r') (hφ : OpD X r φ) (hψ : OpD X r' ψ) (ha : DR X a f) (hb : DR X b g) (hc : DR X c h)
    (hm : lastMarks [op, op'] [b, c] = false := by with_unfolding_all rfl) : DT X (.Compare a [op, op'] [b, c] pos) (blF (chainF φ ψ f g h)) :=
  pt_imp (pt_chain ho ho' ha hb hc hm) fun σ H Q ⟨H₀, Hf₀, ρ, Hf, d, R, q, k⟩ => tChain_of hφ hψ σ H _ ⟨H₀, Hf₀, ρ, Hf, _, R, blF_some q, fun v H1 Hf1 R1 s1 t1 h1 => ⟨d, Has.bl_iff.mp h1, k _ _ R1 s1 t1⟩⟩
def chain3F (φ ψ χ : D → D → Option D) (f g h i : FE) : FE := fun ρ => (f ρ).bind fun x => (g ρ).bind fun y => (φ x y).bind fun
  | .bl true => (h ρ).bind fun z => (ψ y z).bind fun
    | .bl true => (i ρ).bind fun w => χ z w
    | .bl false => some (.bl false)
    | _ => none
  | .bl false => some (.bl false)
  | _ => none
structure GTup (K : PySem.W.Frag) (mg : Str → Option Value) (x : Str) (ds : List D) : Prop where
  ex : ∃ a, mg x = some (.ref a) ∧ Has K (fun _ => none) (.tup ds) (.ref a)
theorem same_none {H : Hp} : Same (fun _ => none) H := fun _ _ e => by cases e
theorem d_gtup {x : Str} {ds : List D} (hg : Gl X x) (hm : GTup X.K X.mg x ds) (hd : (x == ("__debug__" : Str)) = false := by decide) : DE X (.Name x pos) (cF (.tup ds)) := by
  obtain ⟨a, h1, h2⟩ := hm.ex
  exact pe_imp (pe_glob (v := .ref a) hg h1 rfl hd) fun σ H Q ⟨H₀, Hf₀, ρ, Hf, d', R, q, k⟩ => by
    cases q
    exact k _ _ _ R sameR sameR (h2.mono same_none)
theorem gtup_mk {K : PySem.W.Frag} {mg : Str → Option Value} {x : Str} {ds : List D} {a : Addr} {xs : List V} {its : Array Value} {od : Option Addr} {n : Nat} {osl : Array (Option Value)} (h1 : mg x = some (.ref a)) (h2 : K.lookup a = some ⟨.type "tuple", od, .seq its n, osl⟩) (hz : its.size ≤ sizeLine) (hv : Vals xs its.toList) (hl : HasL K (fun _ => none) ds xs) : GTup K mg x ds :=
  ⟨a, h1, Has.tup_iff.mpr ⟨a, xs, rfl, .inr ⟨_, its, n, h2, rfl, rfl, hz, hv⟩, hl⟩⟩
end
end FL
set_option Elab.async false
set_option linter.all false
set_option maxRecDepth 100000
set_option maxHeartbeats 4000000
namespace FL
open PySem PySem.Spec PyProof.Rows L2
section
variable {prog : Program} {w : World} {A : Around} {E : Value → Shared → Prop} {s : Shared}
end
section
variable {X : Cx} {e : Expr} {f : FE} {pos : Pos} {tg : Expr}
end
end FL
set_option Elab.async false
set_option linter.all false
set_option maxRecDepth 100000
set_option maxHeartbeats 4000000
namespace FL
open PySem PySem.Spec PyProof.Rows L2
section
variable {X : Cx} {e : Expr} {f : FE} {pos : Pos} {tg : Expr}
end
def isKind (k : NameKind) : Option NameKind → Bool
  | some k' => k' == k
  | none => false
def compOk (osc scope : Scope) (frees : List Str) : Bool :=
  scope.kind == .function && scope.names.all (fun y => !(y.2 == .cell)) && scope.names.all (fun y => !(y.2 == .local) || isKind .local (scope.names.lookup y.1)) &&
  scope.names.all (fun y => !(y.2 == .free) || (isKind .cell (osc.names.lookup y.1) || isKind .free (osc.names.lookup y.1))) &&
  frees.all (fun x => (isKind .cell (osc.names.lookup x) || isKind .free (osc.names.lookup x)) && isKind .free (scope.names.lookup x))
theorem isKind_eq {k : NameKind} {o : Option NameKind} (h : isKind k o = true) : o = some k := by
  unfold isKind at h
  split at h
  · rw [eq_of_beq h]
  · cases h
theorem CompScope.of {osc scope : Scope} {own frees : List Str} (h : compOk osc scope frees = true) : CompScope osc scope own frees := by
  unfold compOk at h
  simp only [Bool.and_eq_true, List.all_eq_true] at h
  obtain ⟨⟨⟨⟨h1, h2⟩, h3⟩, h4⟩, h5⟩ := h
  refine ⟨eq_of_beq h1, fun y hy z => ?_, fun y hy z => ?_, fun y hy z => ?_, fun x hx => ?_⟩
  · have := h2 y hy
    rw [z] at this
    simp at this
  · have := h3 y hy
    rw [z] at this
    simp at this
    exact isKind_eq this
  · have := h4 y hy
    rw [z] at this
    simp at this
    exact this.imp isKind_eq isKind_eq
  · have := h5 x hx
    exact ⟨(by simpa using this.1 : _ ∨ _).imp isKind_eq isKind_eq, isKind_eq this.2⟩
section
variable {X : Cx} {scope : Scope} {own frees : List Str} {caps : List Nat}
theorem Rep.lstFrz {K : PySem.W.Frag} {H₀ Hf₀ : Hp} {σ : St} {ρ : Rho} {H Hf H' Hf' : Hp} {a : Addr} {xs : List V} (R : Rep K H₀ Hf₀ σ ρ H Hf) (R' : Rep K H₀ Hf₀ σ ρ H' Hf') (ha : H' a = some (.lst xs)) (hn : Hf' a = none) (hh : H a = none) : Rep K H₀ Hf₀ σ ρ H' (upd Hf' a (.lst xs)) := by
  have sm : Same Hf' (upd Hf' a (.lst xs)) := same_upd hn
  refine ⟨R'.s0, fun b u z => ?_, fun b u z => ?_, R'.f0.trans sm, R'.len, fun i d z => ?_, fun i sl z o => ?_, R'.inj⟩
  · by_cases hb : b = a
    · subst hb; rw [upd_same] at z; cases z; exact ha
    · rw [upd_ne hb] at z; exact R'.sf b u z
  · by_cases hb : b = a
    · subst hb; exact .inr (.inl (R.s0.free hh))
    · rw [upd_ne hb] at z; exact R'.nf b u z
  · obtain ⟨v, p1, p2⟩ := R'.fr i d z
    exact ⟨v, p1, p2.mono sm⟩
  · obtain ⟨b, p1, p2, p3, p4⟩ := R.ow i sl z o
    obtain ⟨b', r1, r2, r3, r4⟩ := R'.ow i sl z o
    rw [p1] at r1; cases r1
    refine ⟨b, p1, r2.mono (fun u q => q) sm, ?_, r4⟩
    rw [upd_ne]
    · exact r3
    · rintro rfl
      obtain ⟨o', q'⟩ := p2.there o
      rw [q'] at hh; cases hh
theorem ds_asgComp {tg elt iter : Expr} {ifs : List Expr} {y : Str} {py pos spos : Pos} {fi : FA} {γ : FG} {ft : FT} {f : FE} (i : Nat) (hN : X.N.Nodup) (hc : X.calm = true) (S : CompScope X.env.scope scope own frees) (hcap : caps.map (fun j => X.N[j]?) = frees.map some) (kn : KeepsNo γ) (hi : DI X tg iter fi)
    (body : ∀ cl C s H fp, DG (cxC X scope cl C (own ++ frees) s H fp) tg γ ∧ DQ (cxC X scope cl C (own ++ frees) s H fp) ifs ft ∧ DE (cxC X scope cl C (own ++ frees) s H fp) elt f)
    (hsw : swapsWith (.ListComp elt [⟨tg, iter, ifs, 0⟩] scope pos) (some (.Name y py)) spos.line X.env = pure true := by rfl) (hiN : X.N[i]? = some y := by rfl) (hy : X.env.scope.names.lookup y = some .local := by rfl)
    (hs : ∀ x, foldedSetIterable iter X.env x = pure x := by intro _; rfl) : DS X (.Assign [.Name y py] (.ListComp elt [⟨tg, iter, ifs, 0⟩] scope pos) spos) (asgF i (mapLst (compF own.length caps fi γ ft f))) :=
  ps_imp (wp_asgComp hc S hcap kn hi body hsw i hN hiN hy hs) fun D' σ H ⟨H₀, Hf₀, ρ, Hf, o, R, q, k⟩ => by
    obtain ⟨d, e1, e2⟩ := bindV_some q
    cases e2
    unfold mapLst at e1
    cases e3 : compF own.length caps fi γ ft f ρ with
    | none => rw [e3] at e1; cases e1
    | some ds =>
      rw [e3] at e1
      cases e1
      refine ⟨H₀, Hf₀, ρ, Hf, ds, R, e3, fun a xs H1 Hf1 R1 s1 t1 h1 ha hn hh => ?_⟩
      have sm : Same Hf1 (upd Hf1 a (.lst xs)) := same_upd hn
      exact k _ _ _ ((R.lstFrz R1 ha hn hh).set i (Has.lst_iff.mpr ⟨a, xs, rfl, SqL.of upd_same, h1.mono sm⟩)) (t1.trans sm)
end
end FL
set_option Elab.async false
set_option linter.all false
set_option maxRecDepth 100000
set_option maxHeartbeats 4000000
namespace FL
open PySem PySem.Spec PyProof.Rows L2
section
variable {ρ : Rho} {i j k : Nat} {f g h : FE} {fa ga : FA} {ft gt ht : FT} {F G B : FS} {γ : FG} {δ : FGs} {d x y : D} {ds : List D}
@[simp] theorem s_vF : vF i ρ = (match ρ[i]? with | some (.fr d) => some d | _ => none) := rfl
@[simp] theorem s_vR : vR i ρ = (match ρ[i]? with | some (.fr d) => some d | some (.ol ds) => some (.lst ds) | _ => none) := rfl
@[simp] theorem s_cF : cF d ρ = some d := rfl
@[simp] theorem s_bind1 {φ : D → Option D} : bind1 φ f ρ = (f ρ).bind φ := rfl
@[simp] theorem s_bind2 {φ : D → D → Option D} : bind2 φ f g ρ = (f ρ).bind fun x => (g ρ).bind fun y => φ x y := rfl
@[simp] theorem s_nilA : nilA ρ = some [] := rfl
@[simp] theorem s_consA : consA f ga ρ = (f ρ).bind fun x => (ga ρ).bind fun xs => some (x :: xs) := rfl
@[simp] theorem s_tupF : tupF ga ρ = (ga ρ).bind fun xs => if xs.length ≤ sizeLine then some (.tup xs) else none := rfl
@[simp] theorem s_lstF : lstF ga ρ = (ga ρ).bind fun xs => if xs.length ≤ sizeLine then some xs else none := rfl
@[simp] theorem s_mapLst : mapLst fa ρ = (fa ρ).map D.lst := rfl
@[simp] theorem s_blF : blF f ρ = (f ρ).bind fun | .bl b => some b | _ => none := rfl
@[simp] theorem s_orT : orT ft gt ρ = (ft ρ).bind fun b => if b = true then some true else gt ρ := rfl
@[simp] theorem s_notT : notT ft ρ = (ft ρ).bind fun b => some (!b) := rfl
@[simp] theorem s_ttF : ttF ρ = some true := rfl
@[simp] theorem s_andV : andV f g ρ = (f ρ).bind fun | .bl b => (if b = true then g ρ else some (.bl false)) | _ => none := rfl
@[simp] theorem s_notV : notV f ρ = (f ρ).bind fun | .bl b => some (.bl (!b)) | _ => none := rfl
@[simp] theorem s_ifF : ifF ft f g ρ = (ft ρ).bind fun b => if b = true then f ρ else g ρ := rfl
@[simp] theorem s_appF {φ : List D → Option D} : appF φ fa ρ = (fa ρ).bind φ := rfl
@[simp] theorem s_seqF : seqF F G ρ = (F ρ).bind fun o => match o with | .nx ρ' => G ρ' | o => some o := rfl
@[simp] theorem s_nxF : nxF ρ = some (.nx ρ) := rfl
@[simp] theorem s_retF : retF f ρ = (f ρ).bind fun d => some (.rt d) := rfl
@[simp] theorem s_dropF : dropF f ρ = (f ρ).bind fun _ => some (.nx ρ) := rfl
@[simp] theorem s_ifS : ifS ft F G ρ = (ft ρ).bind fun b => if b = true then F ρ else G ρ := rfl
@[simp] theorem s_asgF : asgF i f ρ = (f ρ).bind fun d => some (.nx (ρ.set i (.fr d))) := rfl
@[simp] theorem s_asgN : asgN i fa ρ = (fa ρ).bind fun ds => some (.nx (ρ.set i (.ol ds))) := rfl
@[simp] theorem s_frzF : frzF i F ρ = (frz i ρ).bind F := rfl
@[simp] theorem s_frz : frz i ρ = (match ρ[i]? with | some (.ol ds) => some (ρ.set i (.fr (.lst ds))) | some (.fr _) => some ρ | _ => none) := rfl
@[simp] theorem s_nameG : nameG i d ρ = some (ρ.set i (.fr d)) := rfl
@[simp] theorem s_nilG : nilG [] ρ = some ρ := rfl
@[simp] theorem s_consG {r : List D} : consG γ δ (d :: r) ρ = (γ d ρ).bind fun ρ' => δ r ρ' := rfl
@[simp] theorem s_tupG : tupG k δ (.tup ds) ρ = if ds.length = k then δ ds ρ else none := rfl
@[simp] theorem s_appendF : appendF i f ρ = (f ρ).bind fun d => match ρ[i]? with | some (.ol ds) => if ds.length < sizeLine then some (.nx (ρ.set i (.ol (ds ++ [d])))) else none | _ => none := rfl
@[simp] theorem s_forF : forF fa γ B ρ = (fa ρ).bind fun ds => loopF γ B ds ρ := rfl
@[simp] theorem s_noP : noP ρ = some none := rfl
@[simp] theorem s_exP : exP f ρ = (f ρ).bind fun | .int i => some (some i) | _ => none := rfl
@[simp] theorem s_compF {n : Nat} {caps : List Nat} {fi : FA} : compF n caps fi γ ft f ρ = (fi ρ).bind fun ds => if ds.length ≤ sizeLine then compGo γ ft f ds (compS n caps ρ) else none := rfl
@[simp] theorem s_compS {n : Nat} {caps : List Nat} : compS n caps ρ = List.replicate n .no ++ caps.map (capS ρ) := rfl
@[simp] theorem s_capS : capS ρ j = (match ρ[j]? with | some (.fr d) => .fr d | _ => .no) := rfl
@[simp] theorem s_rng1 : rng1 fa ρ = (fa ρ).bind rangeA := rfl
theorem rangeA_ok {j : Int} (h1 : -1000000 ≤ j) (h2 : j ≤ 1000000) : rangeA [.int j] = some (rangeD 0 j) := by
  show @ite _ (-(2 ^ 62) ≤ j ∧ j < 2 ^ 62) (Classical.propDecidable _) (some (rangeD 0 j)) none = _
  rw [if_pos (by omega)]
@[simp] theorem s_chainF {φ ψ : D → D → Option D} : chainF φ ψ f g h ρ = (f ρ).bind fun x => (g ρ).bind fun y => (φ x y).bind fun | .bl true => (h ρ).bind fun z => ψ y z | .bl false => some (.bl false) | _ => none := rfl
@[simp] theorem s_denF : denF k F ds = outD (F (startR k ds)) := rfl
@[simp] theorem s_outR : outD (some (.rt d)) = some d := rfl
@[simp] theorem s_outN : outD (some (.nx ρ)) = some .non := rfl
@[simp] theorem s_startR : startR k ds = ds.map Slot.fr ++ List.replicate (k - ds.length) Slot.no := rfl
variable {a b : Int}
@[simp] theorem s_sub : subD (.int a) (.int b) = some (.int (a - b)) := rfl
@[simp] theorem s_add : addX (.int a) (.int b) = some (.int (a + b)) := rfl
@[simp] theorem s_lt : ltD (.int a) (.int b) = some (.bl (decide (a < b))) := rfl
@[simp] theorem s_le : leD (.int a) (.int b) = some (.bl (decide (a ≤ b))) := rfl
@[simp] theorem s_gt : gtD (.int a) (.int b) = some (.bl (decide (b < a))) := rfl
@[simp] theorem s_ge : geD (.int a) (.int b) = some (.bl (decide (b ≤ a))) := rfl
@[simp] theorem s_neg : negD (.int a) = some (.int (-a)) := rfl
@[simp] theorem s_eqi : eqF (.int a) (.int b) = some (.bl (decide (a = b))) := eqF_int
@[simp] theorem s_nei : neF (.int a) (.int b) = some (.bl (!decide (a = b))) := neF_int
@[simp] theorem s_isN : isD k' .non .non = some (.bl (!k')) := rfl
@[simp] theorem s_min : minD [.int a, .int b] = some (.int (if b < a then b else a)) := rfl
@[simp] theorem s_max : maxD [.int a, .int b] = some (.int (if b > a then b else a)) := rfl
@[simp] theorem s_lenL : lenD [.lst ds] = some (.int ds.length) := rfl
@[simp] theorem s_lenT : lenD [.tup ds] = some (.int ds.length) := rfl
@[simp] theorem s_isTy {T : String} : isTy T d = some (.bl (subTy (tyN d) T)) := rfl
end
theorem compF_ok {n : Nat} {caps : List Nat} {fi : FA} {γ : FG} {ft : FT} {f : FE} {ρ : Rho} {ds : List D} (h : fi ρ = some ds) (hz : ds.length ≤ sizeLine) : compF n caps fi γ ft f ρ = compGo γ ft f ds (compS n caps ρ) := by
  rw [s_compF, h, Option.bind_some, if_pos hz]
end FL
set_option Elab.async false
set_option linter.all false
set_option maxRecDepth 100000
set_option maxHeartbeats 4000000
namespace FL
open PySem PySem.Spec PyProof.Rows L2
section
variable {X : Cx}
end
end FL
set_option Elab.async false
set_option linter.all false
set_option maxRecDepth 100000
set_option maxHeartbeats 4000000
namespace FL
open PySem PySem.Spec PyProof.Rows L2
variable {X : Cx}
def intsOf : List D → Option (List Int)
  | [] => some []
  | .int b :: ds => (intsOf ds).map (b :: ·)
  | _ :: _ => none
theorem intsOf_map : ∀ bs : List Int, intsOf (bs.map D.int) = some bs
  | [] => rfl
  | b :: bs => by rw [List.map_cons, intsOf, intsOf_map bs]; rfl
end FL
set_option Elab.async false
set_option linter.all false
set_option maxRecDepth 100000
set_option maxHeartbeats 4000000
namespace FL
open PySem PySem.Spec PyProof.Rows L2
section
variable {prog : Program} {w : World} {A : Around} {E : Value → Shared → Prop} {s : Shared}
end
variable {X : Cx} {e : Expr} {f : FE} {pos : Pos}
end FL
set_option Elab.async false
set_option linter.all false
set_option maxRecDepth 100000
set_option maxHeartbeats 4000000
namespace FL
open PySem PySem.Spec PyProof.Rows L2
theorem type_list_count' : typeOf (.builtin "list.count") = pure (.type "method_descriptor") := by show builtinType _ = _; rw [builtinType_eq_fast]; kernel_rfl
section
variable {X : Cx} {pins : List (Addr × Obj)} {σ : St} {H : Hp} {s : Shared}
theorem count_ansU (I : Inv X pins σ H s) {dx : D} : ∀ {ds : List D} {xs : List V} {us : List Value}, HasL X.K H ds xs → Vals xs us → us.countP (ansU X.K H dx) = ds.countP fun d => eqD d dx
  | [], _, _, h, r => by rw [HasL.nil_iff] at h; subst h; cases r; rfl
  | d :: ds, _, _, h, r => by
    obtain ⟨x, xr, rfl, h1, h2⟩ := HasL.cons_iff.mp h
    cases r with
    | cons r rr => rw [List.countP_cons, List.countP_cons, ansU_of I r h1, count_ansU I h2 rr]
end
section
variable {X : Cx} {o e : Expr} {f g : FE} {kk : Nat}
def rCount (K : PySem.W.Frag) : V → List V → Hp → VK → Prop := fun x vs H Q => ∃ (p : Addr) (ds : List D) (xs : List V) (dx : D) (y : V), x = .ref p ∧ vs = [y] ∧ SqL K H p xs ∧ HasL K H ds xs ∧ Has K H dx y ∧ depL ds ≤ 100 ∧ Q (.int (ds.countP fun d => eqD d dx)) H
theorem mt_count (hr : Room kk X.A) : MtR X "list.count" (rCount X.K) := by
  intro pins s σ H x vs v us Q I rx rv h
  obtain ⟨p, ds, xs, dx, y, rfl, rfl, hq, hl, hx, hd, q⟩ := h
  cases rx
  obtain ⟨u, rfl, ru⟩ := vals1 rv
  obtain ⟨its, r, pl, hz⟩ := I.list hq
  obtain ⟨ob, n, e, hcl, hda, hdi⟩ := pl
  have hu : X.A.in1.units + depL ds < cLine := by show X.A.units + 1 + depL ds < cLine; have := hr.un; omega
  obtain ⟨cls, dict, data, slots⟩ := ob
  simp only at hcl hda hdi
  subst hcl hdi
  subst hda
  refine call_meets F.slot_list_count ⟨_, e, rfl⟩ F.entry_list_count (F.args_list_count_2 _ _) (SeqAt.list_countAt p its.toArray n _ _ u (ansU X.K H dx)) ⟨e, fun y hy => mem_ansU I hx ru hl r hu y (by simpa using hy), ?_⟩
  refine ⟨.int _, H, I.tok _, ⟨_, rfl⟩, ?_⟩
  rw [show its.toArray.toList.countP (ansU X.K H dx) = its.countP (ansU X.K H dx) by simp, count_ansU I hl r]
  exact q
def countD : D → D → Option D
  | .lst ds, x => if depL ds ≤ 100 then some (.int (ds.countP fun d => eqD d x : Nat)) else none
  | _, _ => none
theorem d_count {apos cpos : Pos} (hr : Room kk X.A) (ho : DE X o f) (he : DE X e g)
    (hbase : attributeBase o "count" X.env (eval o X.env) = eval o X.env := by rfl)
    (hfew : ((backTo cpos (starEach [e] X.env)).all (fun x => !x.1) && (backToKw cpos (keywordEach [] X.env)).all (fun x => x.1.isSome)
      && decide (([e] : List Expr).length + ([] : List Keyword).length + (if ([] : List Keyword).isEmpty then 0 else 1) < 30)) = true := by rfl)
    (hline : (apos.endLine == cpos.line) = true := by rfl) (hst : starEach [e] X.env = (false, eval e X.env) :: starEach [] X.env := by rfl) (hplain : (backTo cpos (starEach [] X.env)).any (·.1) = false := by rfl) :
    DE X (.Call (.Attribute o "count" apos) [e] [] cpos) (bind2 countD f g) :=
  pe_imp (pe_bm PySem.F.plainAttrs_list PySem.F.slot_list_count type_list_count' (mt_count hr) ho (pa_cons he pa_nil hst) hbase hfew hline hst hplain) fun σ H Q ⟨H₀, Hf₀, ρ, Hf, d, R, q, k⟩ => by
    obtain ⟨x, y, e1, e2, e3⟩ := bind2_some q
    refine ⟨H₀, Hf₀, ρ, Hf, x, R, e1, fun v H1 Hf1 R1 s1 t1 h1 => ?_⟩
    cases x with
    | lst ds =>
      have e3 : (if depL ds ≤ 100 then some (D.int (ds.countP fun d => eqD d y : Nat)) else none) = some d := e3
      split at e3
      · rename_i hd
        cases e3
        obtain ⟨a, xs, rfl, qa, la⟩ := Has.lst_iff.mp h1
        refine ⟨.inl ⟨rfl, xs, R1.sf.seq qa⟩, H₀, Hf₀, ρ, Hf1, y, R1, e2, fun v' H2 Hf2 R2 s2 t2 h2 => ?_⟩
        exact ⟨a, ds, xs, y, v', rfl, rfl, R2.sf.seq (t2.seq qa), (la.mono t2).mono R2.sf, h2.mono R2.sf, hd, k _ _ _ R2 (s1.trans s2) (t1.trans t2) (Has.int_iff.mpr rfl)⟩
      · cases e3
    | _ => cases e3
end
end FL
set_option Elab.async false
set_option linter.all false
set_option maxRecDepth 100000
set_option maxHeartbeats 4000000
namespace FL
open PySem PySem.Spec PyProof.Rows L2
section
variable {X : Cx} {tg : Expr}
end
end FL
set_option Elab.async false
set_option linter.all false
set_option maxRecDepth 100000
set_option maxHeartbeats 4000000
namespace FL
open PySem PySem.Spec PyProof.Rows L2
section
variable {X : Cx} {a b c dd : Expr} {f g h i4 : FE} {pos p2 : Pos}
def tChain3 (r r' r'' : R2) (ta tb tc td : TE) : TE := fun σ H Q => ta σ H fun x H1 => tb σ H1 fun y H2 => r x y H2 fun z H3 => ∃ k, z = .bl k ∧
  (if k = true then tc σ H3 fun w' H4 => r' y w' H4 fun z2 H5 => ∃ k2, z2 = .bl k2 ∧ (if k2 = true then td σ H5 fun u' H6 => r'' w' u' H6 Q else Q (.bl false) H5) else Q (.bl false) H3)
theorem pt_chain3 {op op' op'' : CmpOp} {r r' r'' : R2} {ta tb tc td : TE} (ho : OpR X (compareOp op) r) (ho' : OpR X (compareOp op') r') (ho'' : OpR X (compareOp op'') r'') (ha : PE X a ta) (hb : PE X b tb) (hc : PE X c tc) (hd : PE X dd td)
    (hm : lastMarks [op, op', op''] [b, c, dd] = false := by with_unfolding_all rfl) : PT X (.Compare a [op, op', op''] [b, c, dd] pos) (tTest (tChain3 r r' r'' ta tb tc td)) := by
  intro pins s σ H Q I h
  refine isTrue_chain (thn (ha pins s σ H _ I h) fun v s1 ⟨x, H1, I1, r1, q1⟩ => test_link (thn (hb pins s1 σ H1 _ I1 q1) fun u s2 ⟨y, H2, I2, r2, q2⟩ =>
    thn (ho pins s2 σ H2 x y v u _ I2 r1 r2 q2) fun d s3 ⟨z, H3, I3, r3, k, e, q3⟩ => ?_)) hm
  subst e
  cases r3
  refine wpAny_truthy_bool ?_
  cases k with
  | false =>
    obtain ⟨k', e', q'⟩ := q3
    cases e'
    exact ite_ff ⟨H3, I3, q'⟩
  | true =>
    refine ite_tt (test_link (thn (hc pins s3 σ H3 _ I3 q3) fun w' s4 ⟨z', H4, I4, r4, q4⟩ => thn (ho' pins s4 σ H4 y z' u w' _ I4 r2 r4 q4) fun d' s5 ⟨z2, H5, I5, r5, k2, e2, q5⟩ => ?_))
    subst e2
    cases r5
    refine wpAny_truthy_bool ?_
    cases k2 with
    | false =>
      obtain ⟨k', e', q'⟩ := q5
      cases e'
      exact ite_ff ⟨H5, I5, q'⟩
    | true =>
      refine ite_tt (test_last (thn (hd pins s5 σ H5 _ I5 q5) fun w2 s6 ⟨z3, H6, I6, r6, q6⟩ => thn (ho'' pins s6 σ H6 z' z3 w' w2 _ I6 r4 r6 q6) fun d3 s7 ⟨z4, H7, I7, r7, k3, e3, q7⟩ => ?_))
      subst e3
      cases r7
      exact wpAny_truthy_bool ⟨H7, I7, q7⟩
theorem bindOpt_some {α β : Type} {o : Option α} {k : α → Option β} {r : β} (h : o.bind k = some r) : ∃ x, o = some x ∧ k x = some r := by
  cases o with
  | none => cases h
  | some x => exact ⟨x, rfl, h⟩
theorem tChain3_of {r r' r'' : R2} {φ ψ χ : D → D → Option D} (hφ : OpD X r φ) (hψ : OpD X r' ψ) (hχ : OpD X r'' χ) (σ : St) (H : Hp) (Q : VK) (hh : tF X.K (chain3F φ ψ χ f g h i4) σ H Q) : tChain3 r r' r'' (tR X.K f) (tR X.K g) (tR X.K h) (tR X.K i4) σ H Q := by
  obtain ⟨H₀, Hf₀, ρ, Hf, d, R, q, k⟩ := hh
  obtain ⟨x, y, e1, e2, e3⟩ := bind2_some q
  obtain ⟨z, e4, e5⟩ := bindOpt_some e3
  refine ⟨H₀, Hf₀, ρ, Hf, x, R, e1, fun v H1 Hf1 R1 s1 t1 h1 => ⟨H₀, Hf₀, ρ, Hf1, y, R1, e2, fun v' H2 Hf2 R2 s2 t2 h2 => ?_⟩⟩
  refine hφ σ ρ H₀ Hf₀ H2 Hf2 v v' x y z _ R2 (h1.mono t2) h2 e4 fun w H3 Hf3 R3 s3 t3 h3 => ?_
  cases z with
  | bl b =>
    refine ⟨b, Has.bl_iff.mp h3, ?_⟩
    cases b with
    | true =>
      obtain ⟨z', e6, e7⟩ := bindV_some e5
      obtain ⟨z2, e8, e9⟩ := bindOpt_some e7
      refine iteT ⟨H₀, Hf₀, ρ, Hf3, z', R3, e6, fun w' H4 Hf4 R4 s4 t4 h4 => ?_⟩
      refine hψ σ ρ H₀ Hf₀ H4 Hf4 v' w' y z' z2 _ R4 ((h2.mono t3).mono t4) h4 e8 fun u H5 Hf5 R5 s5 t5 h5 => ?_
      cases z2 with
      | bl b2 =>
        refine ⟨b2, Has.bl_iff.mp h5, ?_⟩
        cases b2 with
        | true =>
          obtain ⟨z3, e10, e11⟩ := bindV_some e9
          refine iteT ⟨H₀, Hf₀, ρ, Hf5, z3, R5, e10, fun w2 H6 Hf6 R6 s6 t6 h6 => ?_⟩
          exact hχ σ ρ H₀ Hf₀ H6 Hf6 w' w2 z' z3 d Q R6 ((h4.mono t5).mono t6) h6 e11 fun u H7 Hf7 R7 s7 t7 h7 => k _ _ _ R7 ((((((s1.trans s2).trans s3).trans s4).trans s5).trans s6).trans s7) ((((((t1.trans t2).trans t3).trans t4).trans t5).trans t6).trans t7) h7
        | false =>
          cases e9
          exact iteF (k _ _ _ R5 ((((s1.trans s2).trans s3).trans s4).trans s5) ((((t1.trans t2).trans t3).trans t4).trans t5) (Has.bl_iff.mpr rfl))
      | _ => cases e9
    | false =>
      cases e5
      exact iteF (k _ _ _ R3 ((s1.trans s2).trans s3) ((t1.trans t2).trans t3) (Has.bl_iff.mpr rfl))
  | _ => cases e5
theorem dt_chain3 {op op' op'' : CmpOp} {r r' r'' : R2} {φ ψ χ : D → D → Option D} (ho : OpR X (compareOp op) r) (ho' : OpR X (compareOp op') r') (ho'' : OpR X (compareOp op'') r'') (hφ : OpD X r φ) (hψ : OpD X r' ψ) (hχ : OpD X r'' χ) (ha : DR X a f) (hb : DR X b g) (hc : DR X c h) (hd : DR X dd i4)
    (hm : lastMarks [op, op', op''] [b, c, dd] = false := by with_unfolding_all rfl) : DT X (.Compare a [op, op', op''] [b, c, dd] pos) (blF (chain3F φ ψ χ f g h i4)) :=
  pt_imp (pt_chain3 ho ho' ho'' ha hb hc hd hm) fun σ H Q ⟨H₀, Hf₀, ρ, Hf, d, R, q, k⟩ => tChain3_of hφ hψ hχ σ H _ ⟨H₀, Hf₀, ρ, Hf, _, R, blF_some q, fun v H1 Hf1 R1 s1 t1 h1 => ⟨d, Has.bl_iff.mp h1, k _ _ R1 s1 t1⟩⟩
@[simp] theorem s_chain3F {φ ψ χ : D → D → Option D} {ρ : Rho} : chain3F φ ψ χ f g h i4 ρ = (f ρ).bind fun x => (g ρ).bind fun y => (φ x y).bind fun
  | .bl true => (h ρ).bind fun z => (ψ y z).bind fun
    | .bl true => (i4 ρ).bind fun w => χ z w
    | .bl false => some (.bl false)
    | _ => none
  | .bl false => some (.bl false)
  | _ => none := rfl
end
section
variable {X : Cx} {e : Expr} {f : FE} {pos : Pos}
end
section
variable {X : Cx} {e : Expr} {f : FE}
end
end FL
set_option Elab.async false
set_option linter.all false
set_option maxRecDepth 100000
set_option maxHeartbeats 4000000
namespace FL
open PySem PySem.Spec PyProof.Rows L2
section
variable {prog : Program} {w : World} {A : Around} {E : Value → Shared → Prop} {s : Shared}
end
section
variable {P : Program} {w : World} {K : PySem.W.Frag} {J1 J2 : It} {fp1 fp2 : List Addr} {i1 i2 z TI TO : Addr} {tn1 tn2 : Nat → Heap → Prop}
end
section
variable {prog : Program} {w : World} {A : Around} {E : Value → Shared → Prop} {s : Shared}
end
section
variable {X : Cx} {e1 e2 : Expr} {f1 f2 : FE} {pos : Pos} {elts : List Expr} {kx : Nat} {tp : Pos}
end
end FL
set_option Elab.async false
set_option linter.all false
set_option maxRecDepth 100000
set_option maxHeartbeats 4000000
namespace FL
open PySem PySem.Spec PyProof.Rows L2
section
variable {X : Cx} {e : Expr} {pos : Pos}
theorem boot_sorted : bootBuiltins "sorted" = some (.builtin "sorted") := by kernel_rfl
end
end FL
set_option Elab.async false
set_option linter.all false
set_option maxRecDepth 100000
set_option maxHeartbeats 4000000
namespace FL
open PySem PySem.Spec PyProof.Rows L2
section
variable {X : Cx}
end
end FL
set_option Elab.async false
set_option linter.all false
set_option maxRecDepth 100000
set_option maxHeartbeats 4000000
namespace FL
open PySem PySem.Spec PyProof.Rows L2
section
variable {prog : Program} {w : World} {A : Around} {E : Value → Shared → Prop} {s : Shared}
end
section
variable {X : Cx} {e st : Expr} {f fs : FE} {pos p2 : Pos}
end
end FL
set_option Elab.async false
set_option linter.all false
set_option maxRecDepth 100000
set_option maxHeartbeats 4000000
namespace FL
open PySem PySem.Spec PyProof.Rows L2
section
variable {O : KeyOrd} {n : Nat} {key : Nat → O.α}
def Run (O : KeyOrd) (n : Nat) (key : Nat → O.α) {α : Type} : PySem.W.KasT α → (α → Prop) → Prop
  | .ret a, Q => Q a
  | .ask i j k, Q => i < n ∧ j < n ∧ Run O n key (k (O.blt (key i) (key j))) Q
theorem run_mono {α : Type} {Q Q' : α → Prop} (hq : ∀ a, Q a → Q' a) : ∀ {t : PySem.W.KasT α}, Run O n key t Q → Run O n key t Q'
  | .ret a, h => hq a h
  | .ask i j k, h => ⟨h.1, h.2.1, run_mono hq h.2.2⟩
theorem run_bind {α β : Type} {Q : β → Prop} {f : α → PySem.W.KasT β} : ∀ {t : PySem.W.KasT α}, Run O n key t (fun a => Run O n key (f a) Q) → Run O n key (t.bind f) Q
  | .ret a, h => h
  | .ask i j k, h => ⟨h.1, h.2.1, run_bind h.2.2⟩
theorem run_wp {α : Type} {cmp : Nat → Nat → (Bool → Shared → Prop) → Shared → Prop} {s : Shared} (hc : ∀ i j (C : Bool → Shared → Prop), i < n → j < n → C (O.blt (key i) (key j)) s → cmp i j C s) {Q : α → Prop} {G : α → Shared → Prop} (hG : ∀ a, Q a → G a s) :
    ∀ {t : PySem.W.KasT α}, Run O n key t Q → t.kasWp cmp G s
  | .ret a, h => hG a h
  | .ask i j k, h => hc i j _ h.1 h.2.1 (run_wp hc hG h.2.2)
def KP (key : Nat → O.α) (p : Array Nat) (i : Nat) : O.α := key (p[i]?.getD 0)
theorem kp_getD (p : Array Nat) (i : Nat) : key (p.getD i 0) = KP key p i := by unfold KP; rw [Array.getD_eq_getD_getElem?]
theorem kp_congr {p p' : Array Nat} {i j : Nat} (h : p[i]? = p'[j]?) : KP key p i = KP key p' j := by unfold KP; rw [h]
theorem kp_mirror {p : Array Nat} {i j : Nat} (hj : j ≤ p.size) (k : Nat) : KP key (mirror p i j ((j - i) / 2)) k = if i ≤ k ∧ k < j then KP key p (i + j - 1 - k) else KP key p k := by
  have e := getElem?_mirror_all (i := i) hj k
  by_cases h1 : i ≤ k ∧ k < j
  · rw [if_pos h1] at e ⊢; exact kp_congr e
  · rw [if_neg h1] at e ⊢; exact kp_congr e
theorem kp_bubble {p : Array Nat} {src d : Nat} (hs : src < p.size) (hd : d ≤ src) (k : Nat) :
    KP key (bubble p src d) k = if k = src - d then KP key p src else if src - d < k ∧ k ≤ src then KP key p (k - 1) else KP key p k := by
  have e := getElem?_bubble hs d hd k
  by_cases h1 : k = src - d
  · rw [if_pos h1] at e ⊢; exact kp_congr e
  · rw [if_neg h1] at e ⊢
    by_cases h2 : src - d < k ∧ k ≤ src
    · rw [if_pos h2] at e ⊢; exact kp_congr e
    · rw [if_neg h2] at e ⊢; exact kp_congr e
theorem kp_mirror_equal {p : Array Nat} {i j : Nat} (hj : j ≤ p.size) (heq : ∀ k, i ≤ k → k < j → KP key p k = KP key p (j - 1)) (k : Nat) : KP key (mirror p i j ((j - i) / 2)) k = KP key p k := by
  rw [kp_mirror hj]
  split
  · rw [heq _ (by omega) (by omega), heq k (by omega) (by omega)]
  · rfl
def UpTo (key : Nat → O.α) (p : Array Nat) (k : Nat) : Prop := ∀ i j, i ≤ j → j < k → O.kle (KP key p i) (KP key p j)
def DnTo (key : Nat → O.α) (p : Array Nat) (k : Nat) : Prop := ∀ i j, i ≤ j → j < k → O.kle (KP key p j) (KP key p i)
structure Bs (n : Nat) (p : Array Nat) : Prop where
  perm : p.Perm (List.toArray (List.range n))
theorem Bs.size {p : Array Nat} (b : Bs n p) : p.size = n := by rw [b.perm.size_eq]; simp
theorem Bs.lt {p : Array Nat} (b : Bs n p) (hn : 0 < n) (i : Nat) : p.getD i 0 < n := by
  rw [Array.getD_eq_getD_getElem?]
  cases h : p[i]? with
  | none => exact hn
  | some a =>
    have hm : a ∈ p := Array.mem_of_getElem? h
    have : a ∈ List.range n := by simpa using b.perm.mem_iff.mp hm
    simpa using this
theorem Bs.rev {p : Array Nat} (b : Bs n p) (i j : Nat) : Bs n (PySem.W.kas_rev p i j) := ⟨(mirror_perm _ _ _ _).trans b.perm⟩
theorem Bs.bub {p : Array Nat} (b : Bs n p) (i j : Nat) : Bs n (bubble p i j) := ⟨(bubble_perm _ _ _).trans b.perm⟩
theorem run_ask {α : Type} {p : Array Nat} (b : Bs n p) (hn : 0 < n) {i j : Nat} {k : Bool → PySem.W.KasT α} {Q : α → Prop} (h : Run O n key (k (O.blt (KP key p i) (KP key p j))) Q) : Run O n key (.ask (p.getD i 0) (p.getD j 0) k) Q :=
  ⟨b.lt hn i, b.lt hn j, by rw [kp_getD (key := key) p i, kp_getD (key := key) p j]; exact h⟩
open KeyOrd
theorem run_asc {p : Array Nat} (b : Bs n p) : ∀ (f a : Nat), 1 ≤ a → a + f ≤ n → UpTo key p a → Run O n key (PySem.W.kas_asc p f a) fun m => a ≤ m ∧ m ≤ a + f ∧ UpTo key p m ∧ (m = a + f ∨ O.klt (KP key p m) (KP key p (m - 1)))
  | 0, a, _, _, hs => ⟨Nat.le_refl _, Nat.le_refl _, hs, .inl rfl⟩
  | f + 1, a, h1, hf, hs => by
    refine run_ask b (by omega) ?_
    cases hless : O.blt (KP key p a) (KP key p (a - 1)) with
    | true =>
      rw [if_pos rfl]
      exact ⟨Nat.le_refl _, by omega, hs, .inr hless⟩
    | false =>
      rw [if_neg (by simp)]
      refine run_mono ?_ (run_asc b f (a + 1) (by omega) (by omega) ?_)
      · rintro m ⟨x1, x2, x3, x4⟩
        exact ⟨by omega, by omega, x3, x4.imp (fun h => by omega) id⟩
      · intro i j hij hj
        by_cases hjx : j < a
        · exact hs i j hij hjx
        · have hj' : j = a := by omega
          subst hj'
          by_cases hi' : i = j
          · subst hi'; exact kle_refl _
          · exact kle_trans (hs i (j - 1) (by omega) (by omega)) hless
theorem run_tail3 {p : Array Nat} (b : Bs n p) {m : Nat} (h1 : 1 ≤ m) (hm : m ≤ n) (hs : DnTo key p m) : Run O n key (PySem.W.kas_tail3 m n p) fun r => 1 ≤ r.1 ∧ r.1 ≤ n ∧ Bs n r.2 ∧ UpTo key r.2 r.1 := by
  unfold PySem.W.kas_tail3
  have hsz : m ≤ p.size := by rw [b.size]; exact hm
  refine run_bind (run_mono ?_ (run_asc (b.rev 0 m) (n - m) m h1 (by omega) ?_))
  · rintro a ⟨x1, x2, x3, _⟩
    exact ⟨by show 1 ≤ a; omega, by show a ≤ n; omega, b.rev 0 m, x3⟩
  · intro i j hij hj
    show O.kle (KP key (mirror p 0 m ((m - 0) / 2)) i) (KP key (mirror p 0 m ((m - 0) / 2)) j)
    rw [kp_mirror hsz, kp_mirror hsz, if_pos (by omega), if_pos (by omega)]
    exact hs _ _ (by omega) (by omega)
theorem run_desc : ∀ (f : Nat) (p : Array Nat) (x q : Nat), Bs n p → 1 ≤ x → x + f ≤ n → DnTo key p x → q + 1 ≤ x → (∀ i, x - (q + 1) ≤ i → i < x → KP key p i = KP key p (x - 1)) →
    Run O n key (PySem.W.kas_desc f p x q) fun r => Bs n r.1 ∧ x ≤ r.2.1 ∧ r.2.1 ≤ x + f ∧ DnTo key r.1 r.2.1 ∧ r.2.2 + 1 ≤ r.2.1 ∧ ∀ i, r.2.1 - (r.2.2 + 1) ≤ i → i < r.2.1 → KP key r.1 i = KP key r.1 (r.2.1 - 1)
  | 0, p, x, q, b, _, _, hs, hq, he => ⟨b, Nat.le_refl _, Nat.le_refl _, hs, hq, he⟩
  | f + 1, p, x, q, b, h1, hf, hs, hq, he => by
    have hsz : x ≤ p.size := by rw [b.size]; omega
    refine run_ask b (by omega) ?_
    cases hless : O.blt (KP key p x) (KP key p (x - 1)) with
    | true =>
      rw [if_pos rfl]
      have step1 : ∀ p' : Array Nat, (∀ k, KP key p' k = KP key p k) → DnTo key p' (x + 1) := by
        intro p' hk i j hij hj
        rw [hk, hk]
        by_cases hjx : j < x
        · exact hs i j hij hjx
        · have hj' : j = x := by omega
          subst hj'
          by_cases hi' : i = j
          · subst hi'; exact kle_refl _
          · exact kle_trans (kle_of_klt hless) (hs i (j - 1) (by omega) (by omega))
      by_cases hq0 : q > 0
      · rw [if_pos hq0]
        refine run_mono ?_ (run_desc f _ (x + 1) 0 (b.rev _ _) (by omega) (by omega) (step1 _ (kp_mirror_equal hsz he)) (by omega) fun i h1 h2 => by congr 1; omega)
        rintro r ⟨x1, x2, x3, x4⟩
        exact ⟨x1, by omega, by omega, x4⟩
      · rw [if_neg hq0]
        refine run_mono ?_ (run_desc f _ (x + 1) 0 b (by omega) (by omega) (step1 _ fun _ => rfl) (by omega) fun i h1 h2 => by congr 1; omega)
        rintro r ⟨x1, x2, x3, x4⟩
        exact ⟨x1, by omega, by omega, x4⟩
    | false =>
      rw [if_neg (by simp)]
      refine run_ask b (by omega) ?_
      cases hlarger : O.blt (KP key p (x - 1)) (KP key p x) with
      | true =>
        rw [if_pos rfl]
        exact ⟨b, Nat.le_refl _, by show x ≤ _; omega, hs, hq, he⟩
      | false =>
        rw [if_neg (by simp)]
        have heqx : KP key p x = KP key p (x - 1) := kle_antisymm hlarger hless
        refine run_mono ?_ (run_desc f p (x + 1) (q + 1) b (by omega) (by omega) (fun i j hij hj => ?_) (by omega) fun i h1 h2 => ?_)
        · rintro r ⟨x1, x2, x3, x4⟩
          exact ⟨x1, by omega, by omega, x4⟩
        · by_cases hjx : j < x
          · exact hs i j hij hjx
          · have hj' : j = x := by omega
            subst hj'
            by_cases hi' : i = j
            · subst hi'; exact kle_refl _
            · rw [heqx]; exact hs i (j - 1) (by omega) (by omega)
        · rw [show x + 1 - 1 = x by omega]
          by_cases hix : i = x
          · subst hix; rfl
          · rw [heqx]; exact he i (by omega) (by omega)
theorem run_descPart {p : Array Nat} (b : Bs n p) {m : Nat} (hm : m + 1 ≤ n) (hs : DnTo key p (m + 1)) : Run O n key (PySem.W.kas_descPart m n p) fun r => 1 ≤ r.1 ∧ r.1 ≤ n ∧ Bs n r.2 ∧ UpTo key r.2 r.1 := by
  unfold PySem.W.kas_descPart
  refine run_bind (run_mono ?_ (run_desc (n - (m + 1)) p (m + 1) 0 b (by omega) (by omega) hs (by omega) fun i h1 h2 => by congr 1; omega))
  rintro ⟨p', x, q⟩ ⟨x1, x2, x3, x4, x5, x6⟩
  dsimp only at x1 x2 x3 x4 x5 x6 ⊢
  have hsz : x ≤ p'.size := by rw [x1.size]; omega
  by_cases hq : q > 0
  · rw [if_pos hq]
    refine run_tail3 (x1.rev _ _) (by omega) (by omega) ?_
    intro i j hij hj
    show O.kle (KP key (mirror p' _ _ _) j) (KP key (mirror p' _ _ _) i)
    rw [kp_mirror_equal hsz x6, kp_mirror_equal hsz x6]
    exact x4 i j hij hj
  · rw [if_neg hq]
    exact run_tail3 x1 (by omega) (by omega) x4
theorem run_count {p : Array Nat} (b : Bs n p) (hn : 1 ≤ n) : Run O n key (PySem.W.kas_count n p) fun r => 1 ≤ r.1 ∧ r.1 ≤ n ∧ Bs n r.2 ∧ UpTo key r.2 r.1 := by
  unfold PySem.W.kas_count
  refine run_bind (run_mono ?_ (run_asc b (n - 1) 1 (Nat.le_refl _) (by omega) fun i j hij hj => by have : i = j := (by omega); subst this; exact kle_refl _))
  rintro m ⟨x1, x2, x3, x4⟩
  have hb2 : m ≤ n := by omega
  by_cases hmn : m = n
  · rw [if_pos (by simpa using hmn)]
    exact ⟨x1, hb2, b, x3⟩
  · rw [if_neg (by simpa using hmn)]
    have hlt : O.klt (KP key p m) (KP key p (m - 1)) := x4.resolve_left (by omega)
    by_cases hgt : m > 1
    · rw [if_pos hgt]
      refine run_ask b (by omega) ?_
      cases hrose : O.blt (KP key p 0) (KP key p (m - 1)) with
      | true =>
        rw [if_pos rfl]
        exact ⟨x1, hb2, b, x3⟩
      | false =>
        rw [if_neg (by simp)]
        have hsz : m ≤ p.size := by rw [b.size]; omega
        have hall : ∀ k, 0 ≤ k → k < m → KP key p k = KP key p (m - 1) := by
          intro k _ hk
          have a1 := x3 0 k (by omega) hk
          have a2 := x3 k (m - 1) (by omega) (by omega)
          exact kle_antisymm a2 (kle_trans hrose a1)
        refine run_descPart (b.rev _ _) (by omega) ?_
        intro i j hij hj
        show O.kle (KP key (mirror p _ _ _) j) (KP key (mirror p _ _ _) i)
        rw [kp_mirror_equal hsz hall, kp_mirror_equal hsz hall]
        by_cases hjn : j < m
        · rw [hall i (by omega) (by omega), hall j (by omega) hjn]; exact kle_refl _
        · have hj' : j = m := by omega
          subst hj'
          by_cases hi' : i = j
          · subst hi'; exact kle_refl _
          · rw [hall i (by omega) (by omega)]; exact kle_of_klt hlt
    · rw [if_neg hgt]
      have hm1 : m = 1 := by omega
      subst hm1
      refine run_descPart b (by omega) ?_
      intro i j hij hj
      by_cases hi' : i = j
      · subst hi'; exact kle_refl _
      · have hi0 : i = 0 := by omega
        have hj1 : j = 1 := by omega
        subst hi0; subst hj1
        exact kle_of_klt hlt
theorem run_place {p : Array Nat} (b : Bs n p) {k : Nat} (hk : k < n) (hs : UpTo key p k) : ∀ (f l r : Nat), l ≤ r → r ≤ k → r - l ≤ f → (∀ i, i < l → O.kle (KP key p i) (KP key p k)) → (∀ i, r ≤ i → i < k → O.klt (KP key p k) (KP key p i)) →
    Run O n key (PySem.W.kas_place p k f l r) fun l' => l' ≤ k ∧ (∀ i, i < l' → O.kle (KP key p i) (KP key p k)) ∧ ∀ i, l' ≤ i → i < k → O.klt (KP key p k) (KP key p i)
  | 0, l, r, hlr, hrk, hf, hlo, hhi => by
    have : l = r := by omega
    subst this
    exact ⟨hrk, hlo, hhi⟩
  | f + 1, l, r, hlr, hrk, hf, hlo, hhi => by
    unfold PySem.W.kas_place
    by_cases hge : l ≥ r
    · rw [if_pos hge]
      have : l = r := by omega
      subst this
      exact ⟨hrk, hlo, hhi⟩
    · rw [if_neg hge]
      refine run_ask b (by omega) ?_
      cases hless : O.blt (KP key p k) (KP key p ((l + r) / 2)) with
      | true =>
        rw [if_pos rfl]
        exact run_place b hk hs f l ((l + r) / 2) (by omega) (by omega) (by omega) hlo fun i h1 h2 => klt_of_klt_of_kle hless (hs _ _ h1 h2)
      | false =>
        rw [if_neg (by simp)]
        exact run_place b hk hs f ((l + r) / 2 + 1) r (by omega) (by omega) (by omega) (fun i h1 => kle_trans (hs i ((l + r) / 2) (by omega) (by omega)) (show O.kle _ _ from hless)) hhi
theorem run_bin : ∀ (f : Nat) (p : Array Nat) (k : Nat), Bs n p → k + f = n → UpTo key p k → Run O n key (PySem.W.kas_bin f p k) fun p' => Bs n p' ∧ UpTo key p' n
  | 0, p, k, b, hk, hs => ⟨b, by rw [← hk]; exact hs⟩
  | f + 1, p, k, b, hk, hs => by
    unfold PySem.W.kas_bin
    refine run_bind (run_mono ?_ (run_place b (by omega) hs k 0 k (by omega) (Nat.le_refl _) (by omega) (fun i hi => by omega) fun i h1 h2 => by omega))
    rintro l ⟨hlk, hlo, hhi⟩
    refine run_bin f _ (k + 1) (b.bub _ _) (by omega) ?_
    have hks : k < p.size := by rw [b.size]; omega
    intro i j hij hj
    rw [kp_bubble hks (by omega), kp_bubble hks (by omega), show k - (k - l) = l by omega]
    repeat' split
    all_goals first
      | (exfalso; omega)
      | exact kle_refl _
      | exact hlo _ (by omega)
      | exact kle_of_klt (hhi _ (by omega) (by omega))
      | exact hs _ _ (by omega) (by omega)
theorem run_sort (hn : 1 ≤ n) : Run O n key (PySem.W.kas_sort n) fun p => Bs n p ∧ UpTo key p n := by
  unfold PySem.W.kas_sort
  refine run_bind (run_mono ?_ (run_count ⟨.refl _⟩ hn))
  rintro ⟨m, p⟩ ⟨x1, x2, x3, x4⟩
  dsimp only at x1 x2 x3 x4 ⊢
  by_cases h : m < n
  · rw [if_pos h, show max m 1 = m by omega]
    exact run_bin (n - m) p m x3 (by omega) x4
  · rw [if_neg h]
    exact ⟨x3, by rw [show n = m by omega]; exact x4⟩
end
end FL
set_option Elab.async false
set_option linter.all false
set_option maxRecDepth 100000
set_option maxHeartbeats 4000000
namespace FL
open PySem PySem.Spec PyProof.Rows L2
open PySem.AutoSeq1 (wpAny_loadPart')
open PySem.MeetsSeq PySem.MeetsSeq2 PySem.MeetsSeq3
def ltP (x y : Int × Int) : Bool := decide (x.1 < y.1) || (decide (x.1 = y.1) && decide (x.2 < y.2))
end FL
set_option Elab.async false
set_option linter.all false
set_option maxRecDepth 100000
set_option maxHeartbeats 4000000
namespace FL
open PySem PySem.Spec PyProof.Rows L2
theorem ksk_zip2 (vs : List Value) : (vs.toArray.zip vs.toArray).toList = vs.zip vs := by simp
section
variable {prog : Program} {w : World} {A : Around} {E : Value → Shared → Prop} {s : Shared}
theorem map_range_getD (vs : List Value) : (List.range vs.length).map (fun i => vs.getD i Value.none) = vs := by
  apply List.ext_getElem
  · simp
  · intro i h1 h2
    simp [h2]
theorem list_sort_T {O : KeyOrd} {key : Nat → O.α} {κ : SortKind} {a : Addr} {vs : List Value} {n : Nat} {P : Fin → Shared → Prop} (ho : s.heap.get? a = some (seqObj "list" vs.toArray n)) (h64 : vs.length < 64)
    (hk : 2 ≤ vs.length → ∀ h', (∀ b o, b ≠ a → s.heap.get? b = some o → h'.get? b = some o) →
      (∀ (Q : SortKind → Shared → Prop) (E : Value → Shared → Prop), Q κ { s with heap := h' } → wpAny (model prog w) A (keyKind' vs.toArray) Q E { s with heap := h' }) ∧
      ∀ i j (Q : Bool → Shared → Prop), i < vs.length → j < vs.length → Q (O.blt (key i) (key j)) { s with heap := h' } → wpAny (model prog w) A (keyLt' κ (vs.getD i .none) (vs.getD j .none)) Q (fun _ _ => False) { s with heap := h' })
    (h : ∀ p : Array Nat, Bs vs.length p → UpTo key p vs.length → P (.done (.ret .none)) { s with heap := sortedHeap s.heap a vs (List.toArray (p.toList.map fun i => vs.getD i .none)) }) :
    wpAny (model prog w) A (Builtin.«list.sort» ⟨[.ref a], []⟩) P E s := by
  rw [list_sort_plain]
  have ha : a < s.heap.objs.size := Heap.lt_size ho
  refine wpAny_bind (listItems_at ho rfl ?_)
  refine wpAny_bind (listUpdate_at ho rfl ?_)
  obtain ⟨e1, ho1⟩ : ∃ e1, (s.heap.update a (Obj.mapSeq fun _ => #[])).get? a = some (seqObj "list" #[] e1) := ⟨_, get?_update_seq ho (fun _ => #[])⟩
  refine wpAny_bind (seqEpoch_at ho1 rfl ?_)
  refine wpAny_bind (wpAny_newTuple ?_)
  refine wpAny_bind (wpAny_newList ?_)
  refine wpAny_holding ?_
  have ho6 : (((s.heap.update a (Obj.mapSeq fun _ => #[])).push (seqObj "tuple" vs.toArray 0)).push (seqObj "list" #[] 0)).get? a = some (seqObj "list" #[] e1) := by
    rw [Heap.get?_push_ne _ _ _ (by rw [size_push', Heap.size_update]; exact Nat.ne_of_lt (Nat.lt_succ_of_lt ha)), Heap.get?_push_ne _ _ _ (by rw [Heap.size_update]; exact Nat.ne_of_lt ha)]
    exact ho1
  have hkeep : ∀ b o, b ≠ a → s.heap.get? b = some o → (((s.heap.update a (Obj.mapSeq fun _ => #[])).push (seqObj "tuple" vs.toArray 0)).push (seqObj "list" #[] 0)).get? b = some o := fun b o hb x =>
    Heap.get?_push_of_some _ (Heap.get?_push_of_some _ (by rw [Heap.get?_update_ne _ _ _ _ hb]; exact x))
  show wpAny (model prog w) A _ P E { s with heap := ((s.heap.update a (Obj.mapSeq fun _ => #[])).push (seqObj "tuple" vs.toArray 0)).push (seqObj "list" #[] 0) }
  dsimp only
  have hsz : vs.toArray.size = vs.length := by simp
  by_cases h2 : vs.toArray.size < 2
  · rw [if_pos h2, if_pos h2]
    refine wpAny_bind (wpAny_pure ?_)
    rw [StateT.run_pure]
    refine wpAny_bind (wpAny_pure ?_)
    dsimp only
    refine wpAny_bind (seqEpoch_at ho6 rfl ?_)
    refine wpAny_bind (listUpdate_at ho6 rfl ?_ (hsz2 := by rw [Array.size_map]; show (pairsOf vs).size ≤ _; rw [pairsOf_size, sizeLine_eq]; omega))
    simp only [bne_self_eq_false, Bool.false_eq_true, if_false]
    have fin := h (List.toArray (List.range vs.length)) ⟨.refl _⟩ (fun i j hij hj => by
      have : i = j := by omega
      subst this; exact KeyOrd.kle_refl _)
    have eo : (vs.toArray.zip vs.toArray).map (·.2) = List.toArray ((List.toArray (List.range vs.length)).toList.map fun i => vs.getD i .none) := by
      apply Array.toList_inj.mp
      rw [Array.toList_map, ksk_zip2]
      have e1 : (vs.zip vs).map (·.2) = vs := List.map_snd_zip (Nat.le_refl _)
      rw [e1]
      exact (map_range_getD vs).symm
    rw [← eo] at fin
    exact wpAny_pure fin
  · rw [if_neg h2, if_neg h2]
    have h2' : 2 ≤ vs.length := by omega
    obtain ⟨k1, k2⟩ := hk h2' _ hkeep
    refine wpAny_bind (k1 _ _ ?_)
    refine wpAny_bind (wpAny_mono (PySem.W.kat_run (vs := vs) (ks := vs) (κ := κ) (Q := fun st' s' => ∃ p : Array Nat, arrOf st' = p.map (PySem.W.kas_item (vs.toArray.zip vs.toArray)) ∧ failedOf st' = none ∧ (Bs vs.length p ∧ UpTo key p vs.length) ∧ s' = { s with heap := ((s.heap.update a (Obj.mapSeq fun _ => #[])).push (seqObj "tuple" vs.toArray 0)).push (seqObj "list" #[] 0) })
      (G := fun p s' => (Bs vs.length p ∧ UpTo key p vs.length) ∧ s' = { s with heap := ((s.heap.update a (Obj.mapSeq fun _ => #[])).push (seqObj "tuple" vs.toArray 0)).push (seqObj "list" #[] 0) })
      rfl h2' h64 (fun p st' s' a1 a2 a3 a4 => ⟨p, a2, a3, a4⟩) (run_wp (fun i j C hi hj hC => k2 i j C hi hj hC) (fun p hp => ⟨hp, rfl⟩) (run_sort (by omega)))) ?_ fun _ _ e => e)
    rintro ⟨⟨⟩, st'⟩ s' ⟨p, har, hf, hp, rfl⟩
    have hout := PySem.W.kat_snds rfl har
    dsimp only
    rw [hout]
    refine wpAny_bind (seqEpoch_at ho6 rfl ?_)
    refine wpAny_bind (listUpdate_at ho6 rfl ?_ (hsz2 := by rw [List.size_toArray, List.length_map, Array.length_toList, hp.1.size, sizeLine_eq]; omega))
    rw [hf]
    simp only [bne_self_eq_false, Bool.false_eq_true, if_false]
    exact wpAny_pure (h p hp.1 hp.2)
theorem sorted_T {O : KeyOrd} {key : Nat → O.α} {κ : SortKind} {l : Addr} {vs : List Value} {Q : Value → Shared → Prop} (hl : s.heap.IsList l vs.toArray) (h64 : vs.length < 64)
    (hk : 2 ≤ vs.length → ∀ h', (∀ b o, s.heap.get? b = some o → h'.get? b = some o) →
      (∀ (Q : SortKind → Shared → Prop) (E : Value → Shared → Prop), Q κ { s with heap := h' } → wpAny (model prog w) A.in1.in1 (keyKind' vs.toArray) Q E { s with heap := h' }) ∧
      ∀ i j (Q : Bool → Shared → Prop), i < vs.length → j < vs.length → Q (O.blt (key i) (key j)) { s with heap := h' } → wpAny (model prog w) A.in1.in1 (keyLt' κ (vs.getD i .none) (vs.getD j .none)) Q (fun _ _ => False) { s with heap := h' })
    (h : ∀ p : Array Nat, Bs vs.length p → UpTo key p vs.length → Q (.ref (s.heap.objs.size + 1)) { s with heap := sortedAll s.heap vs (List.toArray (p.toList.map fun i => vs.getD i .none)) }) :
    wpAny (model prog w) A (call (.builtin "sorted") [.ref l]) Q E s := by
  refine Calls.call_function_entry kind_sorted plain_sorted entry_sorted (args_sorted1 _) ?_
  unfold Builtin.«sorted»
  refine wpAny_bind (m := checkCount "sorted" 1 1 _) (wpAny_pure ?_)
  refine wpAny_bind (collect_list hl ?_)
  refine wpAny_bind (wpAny_newList ?_)
  have hsz : ((s.heap.push (seqObj "list" #[] 0)).update s.heap.objs.size (Obj.mapSeq (· ++ vs.toArray))).objs.size = s.heap.objs.size + 1 := by
    rw [Heap.size_update, size_push']
  have hoL : (((s.heap.push (seqObj "list" #[] 0)).update s.heap.objs.size (Obj.mapSeq (· ++ vs.toArray))).push (seqObj "list" vs.toArray 0)).get? (s.heap.objs.size + 1) = some (seqObj "list" vs.toArray 0) := by
    rw [← hsz]; exact Heap.get?_push_size _ rfl
  show wpAny _ _ _ _ _ { s with heap := ((s.heap.push (seqObj "list" #[] 0)).update s.heap.objs.size (Obj.mapSeq (· ++ vs.toArray))).push (seqObj "list" vs.toArray 0) }
  rw [hsz]
  have hkp : ∀ b o, s.heap.get? b = some o → b ≠ s.heap.objs.size + 1 ∧ (((s.heap.push (seqObj "list" #[] 0)).update s.heap.objs.size (Obj.mapSeq (· ++ vs.toArray))).push (seqObj "list" vs.toArray 0)).get? b = some o := fun b o x => by
    have hlt : b < s.heap.objs.size := Heap.lt_size x
    refine ⟨Nat.ne_of_lt (Nat.lt_succ_of_lt hlt), ?_⟩
    rw [Heap.get?_push_ne _ _ _ (by rw [hsz]; exact Nat.ne_of_lt (Nat.lt_succ_of_lt hlt)), Heap.get?_update_ne _ _ _ _ (Nat.ne_of_lt hlt), Heap.get?_push_ne _ _ _ (Nat.ne_of_lt hlt)]
    exact x
  refine wpAny_bind (wpAny_holding (wpAny_call_entry slot_list_sort ⟨_, hoL, rfl⟩ entry_list_sort (list_sort_T (key := key) hoL h64 (fun h2 h' hh => hk h2 h' fun b o x => hh b o (hkp b o x).1 (hkp b o x).2) fun p a1 a2 => ⟨_, rfl, ?_⟩) (args_list_sort _)))
  exact wpAny_pure ⟨_, rfl, h p a1 a2⟩
end
end FL
set_option Elab.async false
set_option linter.all false
set_option maxRecDepth 100000
set_option maxHeartbeats 4000000
namespace FL
open PySem PySem.Spec PyProof.Rows L2
def ltR : List (Int × Int) → List (Int × Int) → Bool
  | [], [] => false
  | [], _ :: _ => true
  | _ :: _, [] => false
  | x :: xs, y :: ys => if x = y then ltR xs ys else ltP x y
theorem ltR_irrefl : ∀ a, ltR a a = false
  | [] => rfl
  | x :: xs => by unfold ltR; rw [if_pos rfl]; exact ltR_irrefl xs
theorem ltP_iff {x y : Int × Int} : ltP x y = true ↔ x.1 < y.1 ∨ (x.1 = y.1 ∧ x.2 < y.2) := by unfold ltP; simp
theorem pair_ne {x y : Int × Int} (h : x ≠ y) : x.1 ≠ y.1 ∨ x.2 ≠ y.2 := by
  by_cases a : x.1 = y.1
  · exact .inr fun b => h (Prod.ext a b)
  · exact .inl a
theorem ltR_tri : ∀ a b, ltR a b = false → ltR b a = false → a = b
  | [], [], _, _ => rfl
  | [], _ :: _, h, _ => by cases h
  | _ :: _, [], _, h => by cases h
  | x :: xs, y :: ys, h, h' => by
    unfold ltR at h h'
    by_cases e : x = y
    · subst e
      rw [if_pos rfl] at h h'
      rw [ltR_tri xs ys h h']
    · rw [if_neg e] at h
      rw [if_neg (Ne.symm e)] at h'
      have h1 : ¬ (x.1 < y.1 ∨ (x.1 = y.1 ∧ x.2 < y.2)) := fun q => by rw [ltP_iff.mpr q] at h; cases h
      have h2 : ¬ (y.1 < x.1 ∨ (y.1 = x.1 ∧ y.2 < x.2)) := fun q => by rw [ltP_iff.mpr q] at h'; cases h'
      rcases pair_ne e with q | q <;> omega
theorem ltR_trans : ∀ a b c, ltR a b = true → ltR b c = true → ltR a c = true
  | [], [], _, h, _ => by cases h
  | [], _ :: _, [], _, h => by cases h
  | [], _ :: _, _ :: _, _, _ => rfl
  | _ :: _, [], _, h, _ => by cases h
  | _ :: _, _ :: _, [], _, h => by cases h
  | x :: xs, y :: ys, z :: zs, h, h' => by
    unfold ltR at h h' ⊢
    by_cases e : x = y
    · subst e
      rw [if_pos rfl] at h
      by_cases e' : x = z
      · subst e'
        rw [if_pos rfl] at h' ⊢
        exact ltR_trans xs ys zs h h'
      · rw [if_neg e'] at h' ⊢
        exact h'
    · rw [if_neg e] at h
      by_cases e' : y = z
      · subst e'
        rw [if_neg e]
        exact h
      · rw [if_neg e'] at h'
        have h1 := ltP_iff.mp h
        have h2 := ltP_iff.mp h'
        have h3 : x ≠ z := fun q => by subst q; omega
        rw [if_neg h3]
        exact ltP_iff.mpr (by omega)
def rowOrd : KeyOrd where
  α := List (Int × Int)
  blt := ltR
  irrefl := ltR_irrefl
  trans := ltR_trans
  negTrans := fun a b c h => by
    cases h1 : ltR a b with
    | true => exact .inl rfl
    | false =>
      refine .inr ?_
      cases h2 : ltR b a with
      | true => exact ltR_trans b a c h2 h
      | false => rw [← ltR_tri a b h1 h2]; exact h
  total := ltR_tri
theorem perm_eqK {α : Type} {r : α → α → Prop} (as : ∀ a b, r a b → r b a → a = b) : ∀ {a b : List α}, a.Perm b → a.Pairwise r → b.Pairwise r → a = b
  | [], b, h, _, _ => (List.nil_perm.mp h).symm
  | x :: a, [], h, _, _ => by have := h.length_eq; simp at this
  | x :: a, y :: b, h, ha, hb => by
    rw [List.pairwise_cons] at ha hb
    have e : x = y := by
      have h1 : x ∈ y :: b := h.subset List.mem_cons_self
      have h2 : y ∈ x :: a := h.symm.subset List.mem_cons_self
      rcases List.mem_cons.mp h1 with h1 | h1
      · exact h1
      · rcases List.mem_cons.mp h2 with h2 | h2
        · exact h2.symm
        · exact as _ _ (ha.1 y h2) (hb.1 x h1)
    subst e
    rw [perm_eqK as h.cons_inv ha.2 hb.2]
def insR (x : List (Int × Int)) : List (List (Int × Int)) → List (List (Int × Int))
  | [] => [x]
  | y :: l => if ltR y x = true then y :: insR x l else x :: y :: l
def sortR : List (List (Int × Int)) → List (List (Int × Int))
  | [] => []
  | x :: l => insR x (sortR l)
theorem insR_perm (x : List (Int × Int)) : ∀ l, (insR x l).Perm (x :: l)
  | [] => .refl _
  | y :: l => by
    unfold insR
    split
    · exact ((insR_perm x l).cons y).trans (.swap x y l)
    · exact .refl _
theorem sortR_perm : ∀ l, (sortR l).Perm l
  | [] => .refl _
  | x :: l => (insR_perm x (sortR l)).trans ((sortR_perm l).cons x)
theorem insR_sorted (x : List (Int × Int)) : ∀ {l : List (List (Int × Int))}, l.Pairwise rowOrd.kle → (insR x l).Pairwise rowOrd.kle
  | [], _ => List.pairwise_singleton _ _
  | y :: l, h => by
    have h' := List.pairwise_cons.mp h
    unfold insR
    split
    · rename_i c
      refine List.pairwise_cons.mpr ⟨fun z hz => ?_, insR_sorted x h'.2⟩
      rcases List.mem_cons.mp ((insR_perm x l).subset hz) with rfl | hz
      · exact KeyOrd.kle_of_klt c
      · exact h'.1 z hz
    · rename_i c
      have c' : rowOrd.kle x y := by show ltR y x = false; simpa using c
      refine List.pairwise_cons.mpr ⟨fun z hz => ?_, h⟩
      rcases List.mem_cons.mp hz with rfl | hz
      · exact c'
      · exact KeyOrd.kle_trans c' (h'.1 z hz)
theorem sortR_sorted : ∀ l, (sortR l).Pairwise rowOrd.kle
  | [] => .nil
  | x :: l => insR_sorted x (sortR_sorted l)
theorem sortR_eq {a b : List (List (Int × Int))} (h : a.Perm b) (ha : a.Pairwise rowOrd.kle) : sortR b = a := perm_eqK (fun _ _ => KeyOrd.kle_antisymm) ((sortR_perm b).trans h.symm) (sortR_sorted b) ha
section
variable {X : Cx} {pins : List (Addr × Obj)} {σ : St} {H : Hp} {s : Shared} {A : Around}
end
end FL
set_option Elab.async false
set_option linter.all false
set_option maxRecDepth 100000
set_option maxHeartbeats 4000000
namespace FL
open PySem PySem.Spec PyProof.Rows L2
section
variable {X : Cx} {pins : List (Addr × Obj)} {σ : St} {H : Hp} {s : Shared}
theorem map_range_rows (rs : List (List (Int × Int))) : (List.range rs.length).map (fun i => rs.getD i []) = rs := by
  apply List.ext_getElem
  · simp
  · intro i h1 h2
    simp [h2]
theorem up_sorted {rs : List (List (Int × Int))} {p : Array Nat} (b : Bs rs.length p) (u : UpTo (O := rowOrd) (fun i => rs.getD i []) p rs.length) : sortR rs = p.toList.map fun i => rs.getD i [] := by
  have hp : p.toList.Perm (List.range rs.length) := by simpa using Array.perm_iff_toList_perm.mp b.perm
  refine sortR_eq ?_ ?_
  · have := hp.map fun i => rs.getD i []
    rwa [map_range_rows] at this
  · show List.Pairwise (fun a b : List (Int × Int) => ltR b a = false) (List.map (fun i => rs.getD i []) p.toList)
    rw [List.pairwise_iff_getElem]
    intro i j hi hj hij
    have hs := b.size
    simp only [List.length_map, Array.length_toList] at hi hj
    have q : ltR (KP (O := rowOrd) (fun i => rs.getD i []) p j) (KP (O := rowOrd) (fun i => rs.getD i []) p i) = false := u i j (by omega) (by omega)
    unfold KP at q
    rw [Array.getElem?_eq_getElem hi, Array.getElem?_eq_getElem hj] at q
    simpa using q
end
section
variable {X : Cx} {e : Expr} {pos : Pos} {kk : Nat}
end
end FL
set_option Elab.async false
set_option linter.all false
set_option maxRecDepth 100000
set_option maxHeartbeats 4000000
namespace FL
open PySem PySem.Spec PyProof.Rows L2
section
variable {α : Type} {P : List α → Prop}
theorem all0 (k : P []) : ∀ us : List α, us.length = 0 → P us
  | [], _ => k
theorem all1 (k : ∀ a, P [a]) : ∀ us : List α, us.length = 1 → P us
  | a :: us, h => all0 (P := fun us => P (a :: us)) (k a) us (Nat.succ.inj h)
theorem all2 (k : ∀ a b, P [a, b]) : ∀ us : List α, us.length = 2 → P us
  | a :: us, h => all1 (P := fun us => P (a :: us)) (k a) us (Nat.succ.inj h)
theorem all3 (k : ∀ a b c, P [a, b, c]) : ∀ us : List α, us.length = 3 → P us
  | a :: us, h => all2 (P := fun us => P (a :: us)) (k a) us (Nat.succ.inj h)
end
def keyOf : D → Option Key
  | .int i => some (.inl i)
  | .str x => some (.inr x)
  | _ => none
def keysOf : List D → Option (List Key)
  | [] => some []
  | d :: ds => (keyOf d).bind fun k => (keysOf ds).bind fun ks => some (k :: ks)
def keyD : Key → D
  | .inl i => .int i
  | .inr x => .str x
theorem keysOf_some : ∀ {ds : List D} {ks : List Key}, keysOf ds = some ks → ds = ks.map keyD
  | [], ks, h => by cases h; rfl
  | d :: ds, ks, h => by
    unfold keysOf at h
    obtain ⟨k, h1, h⟩ := Option.bind_eq_some_iff.mp h
    obtain ⟨r, h2, h⟩ := Option.bind_eq_some_iff.mp h
    cases h
    rw [keysOf_some h2, List.map_cons]
    congr 1
    unfold keyOf at h1
    split at h1 <;> cases h1 <;> rfl
theorem hasL_keys {K : PySem.W.Frag} {H : Hp} : ∀ {ks : List Key} {xs : List V}, HasL K H (ks.map keyD) xs → xs = ks.map kV
  | [], xs, h => HasL.nil_iff.mp h
  | k :: ks, xs, h => by
    obtain ⟨x, r, rfl, h1, h2⟩ := HasL.cons_iff.mp h
    rw [hasL_keys h2, List.map_cons]
    congr 1
    cases k with
    | inl i => exact Has.int_iff.mp h1
    | inr z => exact Has.str_iff.mp h1
def putD {κ : Type} [DecidableEq κ] (kvs : List (κ × D)) (k : κ) (v : D) : List (κ × D) :=
  if (kvs.any fun kv => decide (kv.1 = k)) = true then kvs.map (fun kv => if kv.1 = k then (kv.1, v) else kv) else kvs ++ [(k, v)]
theorem KVs.any {K : PySem.W.Frag} {H : Hp} {κ : Type} [DecidableEq κ] {kvs : List (κ × D)} {ws : List (κ × V)} (r : KVs K H kvs ws) (k : κ) : (kvs.any fun kv => decide (kv.1 = k)) = ws.any fun kv => decide (kv.1 = k) := by
  induction r with
  | nil => rfl
  | cons h t ih => rw [List.any_cons, List.any_cons, ih, h.1]
theorem KVs.putAll {K : PySem.W.Frag} {H : Hp} {κ : Type} [DecidableEq κ] {kvs : List (κ × D)} {ws : List (κ × V)} (r : KVs K H kvs ws) (k : κ) {d : D} {v : V} (hv : Has K H d v) :
    KVs K H (kvs.map (fun kv => if kv.1 = k then (kv.1, d) else kv)) (ws.map (fun kv => if kv.1 = k then (kv.1, v) else kv)) := by
  induction r with
  | nil => exact .nil
  | @cons p q ps qs h t ih =>
    rw [List.map_cons, List.map_cons]
    refine .cons ?_ ih
    by_cases e : p.1 = k
    · rw [if_pos e, if_pos (h.1.symm.trans e)]; exact ⟨h.1, hv⟩
    · rw [if_neg e, if_neg (fun z => e (h.1.trans z))]; exact h
theorem KVs.snoc {K : PySem.W.Frag} {H : Hp} {κ : Type} {kvs : List (κ × D)} {ws : List (κ × V)} (r : KVs K H kvs ws) {k : κ} {d : D} {v : V} (hv : Has K H d v) : KVs K H (kvs ++ [(k, d)]) (ws ++ [(k, v)]) := by
  induction r with
  | nil => exact .cons ⟨rfl, hv⟩ .nil
  | cons h t ih => exact .cons h ih
theorem KVs.put {K : PySem.W.Frag} {H : Hp} {κ : Type} [DecidableEq κ] {kvs : List (κ × D)} {ws : List (κ × V)} (r : KVs K H kvs ws) (k : κ) {d : D} {v : V} (hv : Has K H d v) : KVs K H (putD kvs k d) (putK ws k v) := by
  unfold putD putK
  rw [r.any k]
  split
  · exact r.putAll k hv
  · exact r.snoc hv
theorem KVs.length {K : PySem.W.Frag} {H : Hp} {κ : Type} {kvs : List (κ × D)} {ws : List (κ × V)} (r : KVs K H kvs ws) : kvs.length = ws.length := Paired.length r
section
variable {X : Cx} {pos : Pos} {kk : Nat}
def dnewF (i : Nat) : FS := fun ρ => some (.nx (ρ.set i (.oT [])))
theorem ds_dnew {x : Str} {pos' dpos : Pos} (i : Nat) (hN : X.N.Nodup) (hi : X.N[i]? = some x := by rfl) (hx : Loc X.env.scope x := by first | exact Or.inl rfl | exact Or.inr rfl) (hs : swapsWith (.Dict [] [] dpos) (some (.Name x pos')) pos.line X.env = pure false := by rfl)
    (hf : X.fn x = true ∨ X.env.scope.names.lookup x = some .local := by first | exact .inl rfl | exact .inr rfl | assumption) : DS X (.Assign [.Name x pos'] (.Dict [] [] dpos) pos) (dnewF i) :=
  ps_imp (ps_set hN hi hx (pe_dnewT (pos := dpos)) hs hf) fun D' σ H ⟨H₀, Hf₀, ρ, Hf, o, R, q, k⟩ => by
    cases q
    intro p hp
    refine k _ _ _ ((R.layN hp).setOwn i rfl ⟨[], upd_same, .nil⟩ (R.sf.free hp) (R.s0.free hp) ?_) sameR
    intro j sl z o z'
    obtain ⟨b, p1, p2, _⟩ := R.ow j sl z o
    rw [p1] at z'; cases z'
    obtain ⟨ob, q'⟩ := p2.there o
    rw [q'] at hp; cases hp
def dputF (i : Nat) (fa : FA) (g : FE) : FS := fun ρ => (g ρ).bind fun v => (fa ρ).bind fun ks => match ρ[i]? with
  | some (.oT kvs) => (keysOf ks).bind fun k => if kvs.length < sizeLine ∧ ks.length ≤ sizeLine then some (.nx (ρ.set i (.oT (putD kvs k v)))) else none
  | _ => none
theorem ds_dput {x : Str} {es : List Expr} {x1} {p1 tp sp : Pos} {value : Expr} {fa : FA} {g : FE} (i : Nat) (hr : Room kk X.A) (hv : DE X value g) (ha : DA X es fa) (hN : X.N[i]? = some x := by rfl) (hvis : Vis X.env.scope x := by first | exact Or.inl rfl | exact Or.inr (Or.inl rfl) | exact Or.inr (Or.inr rfl))
    (hd : (x == ("__debug__" : Str)) = false := by decide) (hcd : (x == ("__classdict__" : Str)) = false := by decide)
    (hs : swapsWith value (some (.Subscript (.Name x p1) (.Tuple es x1 tp) sp)) pos.line X.env = pure false := by rfl) :
    DS X (.Assign [.Subscript (.Name x p1) (.Tuple es x1 tp) sp] value pos) (dputF i fa g) :=
  ps_imp (ps_dput (by have := hr.un; omega) (pe_var hN hvis hd hcd) (pe_tup ha) hv hs) fun D' σ H ⟨H₀, Hf₀, ρ, Hf, o, R, q, k⟩ => by
    unfold dputF at q
    obtain ⟨v, e1, q⟩ := Option.bind_eq_some_iff.mp q
    obtain ⟨ks, e2, q⟩ := Option.bind_eq_some_iff.mp q
    split at q
    · rename_i kvs el
      obtain ⟨kk, e3, q⟩ := Option.bind_eq_some_iff.mp q
      split at q
      · rename_i hz
        cases q
        obtain ⟨a, p1, _⟩ := R.ow i _ el rfl
        refine ⟨H₀, Hf₀, ρ, Hf, v, R, e1, fun v1 H1 Hf1 R1 s1 t1 h1 => ⟨_, p1, H₀, Hf₀, ρ, Hf1, ks, R1, e2, fun vs H2 Hf2 R2 s2 t2 h2 => ⟨by rw [h2.length]; exact hz.2, fun p hp => ?_⟩⟩⟩
        have R3 := R2.lay (o := .tup vs) hp
        obtain ⟨a', r1, ⟨ws, r2, r3⟩, r4, r5⟩ := R3.ow i _ el rfl
        rw [p1] at r1; cases r1
        rw [keysOf_some e3] at h2
        have ev := hasL_keys h2
        have hzw : ws.length < sizeLine := by rw [← r3.length]; exact hz.1
        refine ⟨a, _, rfl, DPut.t r2 (by rw [upd_same, ev]) hzw, ?_⟩
        have sm : Same Hf1 (upd Hf2 p (.tup vs)) := t2.trans (same_upd (R2.sf.free hp))
        exact k _ _ _ (R3.updOwn el rfl p1 rfl ⟨_, upd_same, r3.put kk (h1.mono sm)⟩) (t1.trans sm)
      · cases q
    · cases q
end
end FL
set_option Elab.async false
set_option linter.all false
set_option maxRecDepth 100000
set_option maxHeartbeats 4000000
namespace FL
open PySem PySem.Spec PyProof.Rows L2
section
variable {prog : Program} {w : World} {A : Around} {E : Value → Shared → Prop} {s : Shared}
end
end FL
set_option Elab.async false
set_option linter.all false
set_option maxRecDepth 100000
set_option maxHeartbeats 4000000
namespace FL
open PySem PySem.Spec PyProof.Rows L2
end FL
set_option Elab.async false
set_option linter.all false
set_option maxRecDepth 100000
set_option maxHeartbeats 4000000
namespace FL
open PySem PySem.Spec PyProof.Rows L2
def itemsD (kvs : List (List Key × D)) : List D := kvs.map fun kv => .tup [.tup (kv.1.map keyD), kv.2]
section
variable {K : PySem.W.Frag} {H₀ Hf₀ : Hp} {σ : St} {ρ : Rho} {H Hf : Hp}
end
section
variable {X : Cx} {pos : Pos} {body : List Stmt} {γ : FG} {B : FS}
def forDF (i : Nat) (γ : FG) (B : FS) : FS := fun ρ => match ρ[i]? with
  | some (.oT kvs) => loopF γ B (itemsD kvs) (ρ.set i .no)
  | _ => none
@[simp] theorem s_forDF {i : Nat} {γ : FG} {B : FS} {ρ : Rho} : forDF i γ B ρ = match ρ[i]? with
  | some (.oT kvs) => loopF γ B (itemsD kvs) (ρ.set i .no)
  | _ => none := rfl
@[simp] theorem s_dnewF {i : Nat} {ρ : Rho} : dnewF i ρ = some (.nx (ρ.set i (.oT []))) := rfl
@[simp] theorem s_dputF {i : Nat} {fa : FA} {g : FE} {ρ : Rho} : dputF i fa g ρ = (g ρ).bind fun v => (fa ρ).bind fun ks => match ρ[i]? with
  | some (.oT kvs) => (keysOf ks).bind fun k => if kvs.length < sizeLine ∧ ks.length ≤ sizeLine then some (.nx (ρ.set i (.oT (putD kvs k v)))) else none
  | _ => none := rfl
end
end FL
set_option Elab.async false
set_option linter.all false
set_option maxRecDepth 100000
set_option maxHeartbeats 4000000
namespace FL
open PySem PySem.Spec PyProof.Rows L2
def dinT (i : Nat) (fa : FA) : FT := fun ρ => (fa ρ).bind fun ks => match ρ[i]? with
  | some (.oT kvs) => (keysOf ks).bind fun k => if ks.length ≤ sizeLine then some (kvs.any fun kv => decide (kv.1 = k)) else none
  | _ => none
@[simp] theorem s_dinT {i : Nat} {fa : FA} {ρ : Rho} : dinT i fa ρ = (fa ρ).bind fun ks => match ρ[i]? with
  | some (.oT kvs) => (keysOf ks).bind fun k => if ks.length ≤ sizeLine then some (kvs.any fun kv => decide (kv.1 = k)) else none
  | _ => none := rfl
section
variable {X : Cx} {pos : Pos} {kk : Nat}
theorem dt_din {x : Str} {es : List Expr} {x1} {p1 tp : Pos} {fa : FA} (i : Nat) (hr : Room kk X.A) (ha : DA X es fa) (hN : X.N[i]? = some x := by rfl) (hvis : Vis X.env.scope x := by first | exact Or.inl rfl | exact Or.inr (Or.inl rfl) | exact Or.inr (Or.inr rfl))
    (hd : (x == ("__debug__" : Str)) = false := by decide) (hcd : (x == ("__classdict__" : Str)) = false := by decide) (hm : behindInMarks .In (.Name x p1) = false := by rfl) :
    DT X (.Compare (.Tuple es x1 tp) [.In] [.Name x p1] pos) (dinT i fa) :=
  pt_imp (pt_cmp (pc_din (by have := hr.un; omega) (pe_tup ha) (pe_var hN hvis hd hcd)) hm) fun σ H Q ⟨H₀, Hf₀, ρ, Hf, b, R, q, k⟩ => by
    unfold dinT at q
    obtain ⟨ks, e2, q⟩ := Option.bind_eq_some_iff.mp q
    split at q
    · rename_i kvs el
      obtain ⟨kk, e3, q⟩ := Option.bind_eq_some_iff.mp q
      split at q
      · rename_i hz
        cases q
        obtain ⟨a, p1, _⟩ := R.ow i _ el rfl
        refine ⟨H₀, Hf₀, ρ, Hf, ks, R, e2, fun vs H2 Hf2 R2 s2 t2 h2 => ⟨by rw [h2.length]; exact hz, fun p hp => ⟨_, p1, ?_⟩⟩⟩
        have R3 := R2.lay (o := .tup vs) hp
        obtain ⟨a', r1, ⟨ws, r2, r3⟩, r4, r5⟩ := R3.ow i _ el rfl
        rw [p1] at r1; cases r1
        rw [keysOf_some e3] at h2
        have ev := hasL_keys h2
        refine ⟨a, _, rfl, DGet.t r2 (by rw [upd_same, ev]), _, rfl, ?_⟩
        rw [← valV_any, ← r3.any kk]
        exact k _ _ R3 (s2.trans (same_upd hp)) (t2.trans (same_upd (R2.sf.free hp)))
      · cases q
    · cases q
end
end FL
set_option Elab.async false
set_option linter.all false
set_option maxRecDepth 100000
set_option maxHeartbeats 4000000
namespace FL
open PySem PySem.Spec PyProof.Rows L2
def cutS (z : Str) (lo hi : Option Int) : Str := ⟨(cutL z.cps.toList lo hi).toArray⟩
theorem clipS (n : Nat) (d : Nat) (v : Int) : max (0 : Int) (min (if v < 0 then v + (n : Int) else v) (n : Int)) = ((HT.sIx n d (some v) : Nat) : Int) := by
  show _ = (((if v < 0 then (v + (n : Int)).toNat else min v.toNat n) : Nat) : Int)
  by_cases hv : v < 0
  · simp only [if_pos hv]; omega
  · simp only [if_neg hv]; omega
theorem indS (lo hi : Option Int) (n : Nat) : Builtin.Str.strSliceIndices lo hi 1 n = sliceRange ((HT.sIx n 0 lo : Nat) : Int) ((HT.sIx n n hi : Nat) : Int) 1 := by
  unfold Builtin.Str.strSliceIndices
  have h1 : ((1 : Int) > 0) = True := by simp
  simp only [h1, if_true]
  congr 1
  · cases lo with
    | none => rfl
    | some v => exact clipS n 0 v
  · cases hi with
    | none => rfl
    | some v => exact clipS n n v
theorem rangeS (a b : Nat) : sliceRange (a : Int) (b : Int) 1 = (List.range (b - a)).map fun k => a + k := by
  unfold sliceRange
  have h1 : ((1 : Int) > 0) = True := by simp
  simp only [h1, if_true]
  by_cases h : (a : Int) < b
  · rw [if_pos h]
    have e3 : (((b : Int) - a + 1 - 1) / 1).toNat = b - a := by first | omega | (simp; omega)
    rw [e3]
    refine List.map_congr_left fun k _ => ?_
    omega
  · rw [if_neg h, show b - a = 0 by omega]
    rfl
theorem pickS (z : Str) (lo hi : Option Int) : (Builtin.Str.strSliceIndices lo hi 1 z.length).filterMap (z.cps[·]?) = cutL z.cps.toList lo hi := by
  have hl : z.length = z.cps.toList.length := by simp [Str.length]
  have hb := HT.sIx_le z.cps.toList.length z.cps.toList.length (Nat.le_refl _) hi
  have ha := HT.sIx_le z.cps.toList.length 0 (Nat.zero_le _) lo
  rw [indS, hl]
  unfold cutL
  generalize HT.sIx z.cps.toList.length 0 lo = a at ha ⊢
  generalize HT.sIx z.cps.toList.length z.cps.toList.length hi = b at hb ⊢
  rw [rangeS]
  by_cases hab : a ≤ b
  · have h := StrLaws.picks z.cps.toList (b - a) a (by omega)
    simpa using h
  · rw [show b - a = 0 by omega]
    rfl
theorem cutL_length {α : Type} (xs : List α) (lo hi : Option Int) : (cutL xs lo hi).length ≤ xs.length := by
  unfold cutL
  rw [List.length_take, List.length_drop]
  omega
theorem cutL_same {α : Type} (xs : List α) (lo hi : Option Int) (h : (cutL xs lo hi).length = xs.length) : cutL xs lo hi = xs := by
  unfold cutL at h ⊢
  rw [List.length_take, List.length_drop] at h
  have hb := HT.sIx_le xs.length xs.length (Nat.le_refl _) hi
  generalize HT.sIx xs.length 0 lo = a at h ⊢
  generalize HT.sIx xs.length xs.length hi = b at h hb ⊢
  by_cases hz : xs = []
  · subst hz; simp
  · have : 0 < xs.length := List.length_pos_iff.mpr hz
    have ha : a = 0 := by omega
    subst ha
    have : b = xs.length := by omega
    subst this
    simp
theorem str_ext {x y : Str} (h : x.cps.toList = y.cps.toList) : x = y := by
  cases x; cases y
  simp only [Str.mk.injEq]
  exact Array.toList_inj.mp h
section
variable {X : Cx}
def rSlS : V → Option Int → Option Int → Hp → VK → Prop := fun x lo hi H Q => ∃ z, x = .str z ∧ z.length ≤ sizeLine ∧ Q (.str (cutS z lo hi)) H
theorem sl_str : SlR X rSlS := by
  intro pins s σ H x v vl vu lo hi sl Q I rx hs pl pu h
  obtain ⟨z, rfl, hz, q⟩ := h
  obtain ⟨t, rfl⟩ := rx
  refine ⟨"str", _, F.slot_str_getitem.lookup, typeIs_str s z t, ?_⟩
  obtain ⟨l, el, hl⟩ : ∃ l : Option (Int × Tok), vl = partValue l ∧ l.map (·.1) = lo := by
    cases pl with
    | none => exact ⟨none, rfl, rfl⟩
    | int i t => exact ⟨some (i, t), rfl, rfl⟩
  obtain ⟨u, eu, hu⟩ : ∃ l : Option (Int × Tok), vu = partValue l ∧ l.map (·.1) = hi := by
    cases pu with
    | none => exact ⟨none, rfl, rfl⟩
    | int i t => exact ⟨some (i, t), rfl, rfl⟩
  subst el eu
  refine wpAny_getItem_str_slice (l := l) (u := u) (st := none) hs rfl ?_
  have hp : slicePicked z l u none = Builtin.Str.strSliceIndices lo hi 1 z.length := by
    unfold slicePicked; rw [hl, hu]; rfl
  have hln : (Builtin.Str.strSliceIndices lo hi 1 z.length).length = (cutL z.cps.toList lo hi).length := by
    rw [indS, rangeS, List.length_map, List.length_range]
    have hl : z.length = z.cps.toList.length := by simp [Str.length]
    unfold cutL
    rw [List.length_take, List.length_drop, hl]
    have hb := HT.sIx_le z.cps.toList.length z.cps.toList.length (Nat.le_refl _) hi
    omega
  unfold sliceMade
  rw [hp]
  split
  · rename_i hw
    have e : cutS z lo hi = z := by
      apply str_ext
      show (cutL z.cps.toList lo hi).toArray.toList = _
      rw [List.toList_toArray]
      apply cutL_same
      rw [← hln]
      simp at hw
      rw [hw]
      simp [Str.length]
    exact ⟨.str z, H, I, ⟨t, rfl⟩, by rw [← e]; exact q⟩
  · rw [pickS]
    refine ⟨?_, .str _, H, I.tok _, ⟨_, rfl⟩, q⟩
    have := cutL_length z.cps.toList lo hi
    rw [Array.length_toList] at this
    show (cutL z.cps.toList lo hi).toArray.size ≤ sizeLine
    rw [List.size_toArray]
    exact Nat.le_trans this hz
def sliceX (f : FE) (l u : FP) : FE := fun ρ => (f ρ).bind fun x => (l ρ).bind fun lo => (u ρ).bind fun hi => match x with
  | .tup ds => some (.tup (cutL ds lo hi))
  | .lst ds => some (.lst (cutL ds lo hi))
  | .str z => if z.length ≤ sizeLine then some (.str (cutS z lo hi)) else none
  | _ => none
variable {a b c e : Expr} {f g h : FE} {pos p2 : Pos}
theorem d_sliceX {lo hi : Option Expr} {l u : FP} (he : DR X e f) (hl : DP X lo l) (hu : DP X hi u) : DE X (.Subscript e (.Slice lo hi none p2) pos) (sliceX f l u) :=
  pe_imp (pe_slice (sl_tupG.or (sl_list.or sl_str)) he hl hu) fun σ H Q ⟨H₀, Hf₀, ρ, Hf, d, R, q, k⟩ => by
    obtain ⟨x, e1, e2⟩ := bindV_some q
    cases e3 : l ρ with
    | none => rw [e3] at e2; cases e2
    | some lo =>
      rw [e3] at e2
      cases e4 : u ρ with
      | none => rw [e4] at e2; cases e2
      | some hi =>
        rw [e4] at e2
        simp only [Option.bind_some] at e2
        refine ⟨H₀, Hf₀, ρ, Hf, x, R, e1, fun v H1 Hf1 R1 s1 t1 h1 => ⟨H₀, Hf₀, ρ, Hf1, lo, R1, e3, fun H2 Hf2 R2 s2 t2 => ⟨H₀, Hf₀, ρ, Hf2, hi, R2, e4, fun H3 Hf3 R3 s3 t3 => ?_⟩⟩⟩
        have h3 := (h1.mono t2).mono t3
        have ss := (s1.trans s2).trans s3
        have tt := (t1.trans t2).trans t3
        split at e2
        · cases e2
          obtain ⟨a, xs, rfl, qa, la⟩ := h3.tup R3
          refine .inl ⟨a, xs, rfl, qa, fun hw => ?_, fun hw p hp => ?_⟩
          · rw [la.length] at hw
            exact k _ _ _ R3 ss tt (by rw [cut_whole hw]; exact h3.tupF)
          · have sm := same_upd (o := .tup (cutV xs lo hi)) (R3.sf.free hp)
            exact k _ _ _ (R3.lay hp) (ss.trans (same_upd hp)) (tt.trans sm) (Has.tup_iff.mpr ⟨p, _, rfl, SqT.of upd_same, (la.cut lo hi).mono sm⟩)
        · cases e2
          obtain ⟨a, xs, rfl, qa, la⟩ := h3.lst R3
          refine .inr (.inl ⟨a, xs, rfl, qa, fun p hp => ?_⟩)
          have sm := same_upd (o := .lst (cutV xs lo hi)) (R3.sf.free hp)
          exact k _ _ _ (R3.lay hp) (ss.trans (same_upd hp)) (tt.trans sm) (Has.lst_iff.mpr ⟨p, _, rfl, SqL.of upd_same, (la.cut lo hi).mono sm⟩)
        · split at e2
          · cases e2
            exact .inr (.inr ⟨_, h3.str, by assumption, k _ _ _ R3 ss tt (Has.str_iff.mpr rfl)⟩)
          · cases e2
        · cases e2
end
end FL
set_option Elab.async false
set_option linter.all false
set_option maxRecDepth 100000
set_option maxHeartbeats 4000000
namespace FL
open PySem PySem.Spec PyProof.Rows L2
def ItS (z : Str) : It := ⟨fun i _ => i < z.cps.toList.length, fun i H x H' => H' = H ∧ ∃ c, z.cps.toList[i]? = some c ∧ x = .str ⟨#[c]⟩, fun i _ => z.cps.toList.length ≤ i⟩
theorem turn_text {P : Program} {w : World} {K : PySem.W.Frag} {tg : Expr} (z : Str) (t : Tok) (it : Addr) (ty : String) (hty : ty = "str_ascii_iterator" ∨ ty = "str_iterator") : Turn P w K tg (ItS z) [it] it (fun i h => h.IsStrIter it ty z t i) where
  mem := by simp
  obj := fun i h st b hb => by
    have e : b = it := by simpa using hb
    subst e
    obtain ⟨o, ho, _, hd⟩ := st
    exact ⟨o, ho, fun v zz => by rw [hd] at zz; cases zz⟩
  keep := fun i h h' st k => let ⟨o, ho, r⟩ := st; ⟨o, k it (by simp) o ho, r⟩
  item := by
    intro X hP hw hK hc i pins s σ H E I hf st hg
    subst hP hw hK
    have hg : i < z.cps.toList.length := hg
    have hi : i < z.cps.size := by simpa using hg
    have fr := hf it (by simp)
    have hx : z.cps[i]? = some z.cps[i] := by simp [hi]
    have fin : ∀ h', h'.IsStrIter it ty z t (i + 1) → Heap.SameBut it s.heap h' → ∃ u, (some (Value.str ⟨#[z.cps[i]]⟩ s.toks)) = some u ∧ wpAny (model X.prog X.w) X.A (letOwnedTupleGo tg (.ref it) u) (fun _ s2 => ∃ x H', Inv X pins σ H' s2 ∧ RelV x u ∧ (ItS z).yld i H x H' ∧ s2.heap.IsStrIter it ty z t (i + 1) ∧ ∀ b ∈ [it], H' b = none) E { s with heap := h', toks := s.toks + 1 } := by
      intro h' st' sb
      have I1 : Inv X pins σ H { s with heap := h', toks := s.toks + 1 } := turned1 (t' := s.toks + 1) I sb fr
      obtain ⟨o, ho, hcl, hd⟩ := id st'
      refine ⟨_, rfl, go_of (s := { s with heap := h', toks := s.toks + 1 }) ho hcl hd (by rcases hty with e | e <;> subst e <;> decide) ⟨.str ⟨#[z.cps[i]]⟩, H, I1, ⟨_, rfl⟩, ⟨rfl, z.cps[i], by simp [hi], rfl⟩, st', fun b hb => (hf b hb).1⟩⟩
    rcases hty with e | e
    · subst e
      exact wpAny_pyNext_ascii_item st hx fin
    · subst e
      exact wpAny_pyNext_wide_item st hx fin
  done := by
    intro X hP hw hK hc i pins s σ H E I hf st hg
    subst hP hw hK
    have hg : z.cps.toList.length ≤ i := hg
    have hx : z.cps[i]? = none := by simpa using hg
    obtain ⟨f0, f1, f2, f3, f4, f5⟩ := hf it (by simp)
    have fin : ∀ h', Heap.ExtBut it s.heap h' → (none : Option Value) = none ∧ Inv X pins σ H { s with heap := h' } := fun h' eb =>
      ⟨rfl, I.turned (t' := s.toks) (fun b o hb e => eb b o hb e) f0 f1 f3 f4 f5⟩
    rcases hty with e | e
    · subst e
      exact wpAny_pyNext_ascii_end (I.ok.hd hc) st hx fin
    · subst e
      exact wpAny_pyNext_wide_end (I.ok.hd hc) st hx fin
  self := fun A i s Q E st h => by
    rcases hty with e | e
    · subst e; exact wpAny_pyIter_striter_ascii st h
    · subst e; exact wpAny_pyIter_striter_wide st h
def sgnD (z : Str) : List D := z.cps.toList.map fun c => D.str ⟨#[c]⟩
theorem walks_text {K : PySem.W.Frag} {Hf : Hp} {z : Str} : FL.Walks K Hf (ItS z) (sgnD z) := fun H2 Hf2 t2 sf2 i => by
  refine ⟨fun d hd => ?_, fun hle => ?_⟩
  · unfold sgnD at hd
    rw [List.getElem?_map] at hd
    cases e : z.cps.toList[i]? with
    | none => rw [e] at hd; cases hd
    | some c =>
      rw [e] at hd
      cases hd
      refine ⟨(List.getElem?_eq_some_iff.mp e).1, fun x H3 hy => ?_⟩
      obtain ⟨rfl, c', hc, rfl⟩ := hy
      rw [e] at hc
      cases hc
      exact ⟨Hf2, Grows.refl sf2, Has.str_iff.mpr rfl⟩
  · show z.cps.toList.length ≤ i
    simpa [sgnD] using hle
section
variable {X : Cx} {e : Expr} {f : FE} {pos : Pos} {tg : Expr}
def seqOfX : D → Option (List D)
  | .lst ds => some ds
  | .tup ds => some ds
  | .str z => some (sgnD z)
  | _ => none
def seqX (f : FE) : FA := fun ρ => (f ρ).bind seqOfX
theorem di_seqX (he : DE X e f) : DI X tg e (seqX f) := by
  intro pins s σ H R I h
  obtain ⟨H₀, Hf₀, ρ, Hf, ds, R0, q, k⟩ := h
  obtain ⟨d, q3, q4⟩ := bindV_some q
  refine thn (he pins s σ H (fun v H1 => ∃ Hf1, Rep X.K H₀ Hf₀ σ ρ H1 Hf1 ∧ Same H H1 ∧ Same Hf Hf1 ∧ Has X.K Hf1 d v) I ⟨H₀, Hf₀, ρ, Hf, d, R0, q3, fun v H1 Hf1 R1 s1 t1 h1 => ⟨Hf1, R1, s1, t1, h1⟩⟩) fun u s1 ⟨v, H1, I1, r, Hf1, R1, s1', t1, h1⟩ => ?_
  cases d with
  | lst ds' =>
    cases q4
    obtain ⟨a, xs, rfl, qa, la⟩ := Has.lst_iff.mp h1
    cases r
    obtain ⟨its, rv, p, hz⟩ := I1.list (R1.sf.seq qa)
    refine wpAny_pyIter_list p.isList ?_
    refine ⟨s1.heap.objs.size, [s1.heap.objs.size], _, _, H1, rfl, I1.kept (t' := s1.toks) fun b o e => Heap.get?_push_of_some _ e, turn_list a _, ⟨_, Heap.get?_push_size _ rfl, rfl, rfl⟩, fun b hb => ?_, k _ _ _ R1 s1' t1 (walks_list qa la)⟩
    have e : b = s1.heap.objs.size := by simpa using hb
    subst e
    exact I1.fpOk (Nat.le_refl _) (I1.hok.fresh (Nat.le_refl _))
  | tup ds' =>
    cases q4
    obtain ⟨a, xs, rfl, qa, la⟩ := Has.tup_iff.mp h1
    cases r
    obtain ⟨its, rv, p, hz⟩ := I1.tuple (sameT R1.sf qa)
    refine wpAny_pyIter_tuple (show s1.heap.IsTuple a its.toArray from p) ?_
    refine ⟨s1.heap.objs.size, [s1.heap.objs.size], _, _, H1, rfl, I1.kept (t' := s1.toks) fun b o e => Heap.get?_push_of_some _ e, turn_tuple a _, ⟨_, Heap.get?_push_size _ rfl, rfl, rfl⟩, fun b hb => ?_, k _ _ _ R1 s1' t1 (walks_tup qa la)⟩
    have e : b = s1.heap.objs.size := by simpa using hb
    subst e
    exact I1.fpOk (Nat.le_refl _) (I1.hok.fresh (Nat.le_refl _))
  | str z =>
    cases q4
    cases Has.str_iff.mp h1
    obtain ⟨t, rfl⟩ := r
    have fin : ∀ ty : String, ty = "str_ascii_iterator" ∨ ty = "str_iterator" → PIE X pins σ tg R (.ref s1.heap.objs.size) { s1 with heap := s1.heap.push { cls := .type ty, data := .fields #[.str z t, .int 0 0] } } := fun ty hty => by
      refine ⟨s1.heap.objs.size, [s1.heap.objs.size], _, _, H1, rfl, I1.kept (t' := s1.toks) fun b o e => Heap.get?_push_of_some _ e, turn_text z t _ ty hty, ⟨_, Heap.get?_push_size _ rfl, rfl, rfl⟩, fun b hb => ?_, k _ _ _ R1 s1' t1 walks_text⟩
      have e : b = s1.heap.objs.size := by simpa using hb
      subst e
      exact I1.fpOk (Nat.le_refl _) (I1.hok.fresh (Nat.le_refl _))
    cases ha : z.cps.all (· < 128)
    · exact wpAny_pyIter_wide ha (fin _ (.inr rfl))
    · exact wpAny_pyIter_ascii ha (fin _ (.inl rfl))
  | _ => cases q4
end
section
variable {X : Cx} {o e : Expr} {f g : FE} {kk : Nat}
def rTT (φ : Str → Str → Int) : V → List V → Hp → VK → Prop := fun x vs H Q => ∃ z y, x = .str z ∧ vs = [.str y] ∧ Q (.int (φ z y)) H
theorem mt_find : MtR X "str.find" (rTT Txt.find) := by
  intro pins s σ H x vs v us Q I rx rv h
  obtain ⟨z, y, rfl, rfl, q⟩ := h
  obtain ⟨t, rfl⟩ := rx
  obtain ⟨u, rfl, t', rfl⟩ := vals1 rv
  exact SC.find ⟨.int _, H, I.tok _, ⟨_, rfl⟩, q⟩
def ttD (φ : Str → Str → Int) : D → D → Option D
  | .str z, .str y => some (.int (φ z y))
  | _, _ => none
theorem d_tt {φ : Str → Str → Int} {name : Str} {id : String} {apos cpos : Pos} (slot : PySem.Slot "str" name id) (hty : typeOf (.builtin id) = pure (.type "method_descriptor")) (hm : MtR X id (rTT φ)) (ho : DE X o f) (he : DE X e g)
    (hbase : attributeBase o name X.env (eval o X.env) = eval o X.env := by rfl)
    (hfew : ((backTo cpos (starEach [e] X.env)).all (fun x => !x.1) && (backToKw cpos (keywordEach [] X.env)).all (fun x => x.1.isSome)
      && decide (([e] : List Expr).length + ([] : List Keyword).length + (if ([] : List Keyword).isEmpty then 0 else 1) < 30)) = true := by rfl)
    (hline : (apos.endLine == cpos.line) = true := by rfl) (hst : starEach [e] X.env = (false, eval e X.env) :: starEach [] X.env := by rfl) (hplain : (backTo cpos (starEach [] X.env)).any (·.1) = false := by rfl) :
    DE X (.Call (.Attribute o name apos) [e] [] cpos) (bind2 (ttD φ) f g) :=
  pe_imp (pe_bm PySem.F.plainAttrs_str slot hty hm ho (pa_cons he pa_nil hst) hbase hfew hline hst hplain) fun σ H Q ⟨H₀, Hf₀, ρ, Hf, d, R, q, k⟩ => by
    obtain ⟨x, y, e1, e2, e3⟩ := bind2_some q
    refine ⟨H₀, Hf₀, ρ, Hf, x, R, e1, fun v H1 Hf1 R1 s1 t1 h1 => ?_⟩
    unfold ttD at e3
    split at e3
    · cases e3
      cases Has.str_iff.mp h1
      refine ⟨rfl, H₀, Hf₀, ρ, Hf1, _, R1, e2, fun v' H2 Hf2 R2 s2 t2 h2 => ?_⟩
      cases Has.str_iff.mp h2
      exact ⟨_, _, rfl, rfl, k _ _ _ R2 (s1.trans s2) (t1.trans t2) (Has.int_iff.mpr rfl)⟩
    · cases e3
end
section
variable {X : Cx}
def rIntX : List V → Hp → VK → Prop := fun xs H Q => ((∃ i, xs = [.int i] ∧ Q (.int i) H) ∨ ∃ k, xs = [.bl k] ∧ Q (.int (if k then 1 else 0)) H) ∨ ∃ z n, xs = [.str z] ∧ z.length ≤ 640 ∧ PySem.intText? z = some n ∧ Q (.int n) H
theorem call_intX : CallR X (.type "int") rIntX := by
  intro pins s σ H xs us Q I r h
  rcases h with h | ⟨z, n, rfl, hl, hn, q⟩
  · exact call_int1 pins s σ H xs us Q I r h
  · obtain ⟨u, rfl, t, rfl⟩ := vals1 r
    exact PySem.W.KIN.call_text hn hl ⟨.int n, H, I.tok _, ⟨_, rfl⟩, q⟩
def intX : List D → Option D
  | [.int i] => some (.int i)
  | [.bl b] => some (.int (if b then 1 else 0))
  | [.str z] => if z.length ≤ 640 then (PySem.intText? z).map D.int else none
  | _ => none
theorem fnR_intX : FnR X rIntX intX := by
  intro σ ρ H₀ Hf₀ H Hf xs ds d Q R hx hφ k
  unfold intX at hφ
  split at hφ
  · cases hφ
    obtain ⟨v, rfl, hv⟩ := hx.one
    exact .inl (.inl ⟨_, by rw [hv.int], k _ _ _ R sameR sameR (Has.int_iff.mpr rfl)⟩)
  · cases hφ
    obtain ⟨v, rfl, hv⟩ := hx.one
    exact .inl (.inr ⟨_, by rw [hv.bl], k _ _ _ R sameR sameR (Has.int_iff.mpr rfl)⟩)
  · split at hφ
    · rename_i z hl
      cases hn : PySem.intText? z with
      | none => rw [hn] at hφ; cases hφ
      | some n =>
        rw [hn] at hφ
        cases hφ
        obtain ⟨v, rfl, hv⟩ := hx.one
        exact .inr ⟨z, n, by rw [hv.str], hl, hn, k _ _ _ R sameR sameR (Has.int_iff.mpr rfl)⟩
    · cases hφ
  · cases hφ
end
end FL
set_option Elab.async false
set_option linter.all false
set_option maxRecDepth 100000
set_option maxHeartbeats 4000000
namespace FL
open PySem PySem.Spec PyProof.Rows L2
abbrev FJ := Rho → Option (List Str)
section
variable {X : Cx} {e : Expr} {es : List Expr} {f : FE} {fj : FJ} {pos p2 : Pos}
def setIF (i : Nat) (g f : FE) : FS := fun ρ => (f ρ).bind fun y => (g ρ).bind fun x => match ρ[i]?, x with
  | some (.ol ds), .int k => (ixN ds.length k).bind fun j => some (.nx (ρ.set i (.ol (ds.set j y))))
  | _, _ => none
theorem ds_setI {ix : Expr} {g : FE} {x : Str} {p1 tpos : Pos} (i : Nat) (he : DE X e f) (hg : DE X ix g) (hN : X.N[i]? = some x := by rfl) (hv : Vis X.env.scope x := by first | exact Or.inl rfl | exact Or.inr (Or.inl rfl) | exact Or.inr (Or.inr rfl))
    (hd : (x == ("__debug__" : Str)) = false := by decide) (hcd : (x == ("__classdict__" : Str)) = false := by decide)
    (ha : ∀ v, assign (.Subscript (.Name x p1) ix tpos) X.env v = (do
      let ov ← holding [v] (eval (.Name x p1) X.env)
      let iv ← holding [v, ov] (eval ix X.env)
      standAt tpos
      holding [v, ov, iv] (setItem ov iv v)
      release [v, ov, iv] []) := by intro _; rfl)
    (hs : swapsWithSole [.Subscript (.Name x p1) ix tpos] e pos.line X.env = pure false := by rfl) (hw : swappedStores [.Subscript (.Name x p1) ix tpos] e X.env = pure none := by rfl)
    (h1 : (assignEach [.Subscript (.Name x p1) ix tpos] X.env).map (·.2) = [assign (.Subscript (.Name x p1) ix tpos) X.env] := by rfl) :
    DS X (.Assign [.Subscript (.Name x p1) ix tpos] e pos) (setIF i g f) :=
  ps_imp (ps_asg he (pg_sub (pe_var hN hv hd hcd) hg set_list ha) hs hw h1) fun D' σ H ⟨H₀, Hf₀, ρ, Hf, o, R, q, k⟩ => by
    obtain ⟨y, e1, e2⟩ := bindV_some q
    obtain ⟨z, e3, e4⟩ := bindV_some e2
    split at e4
    · rename_i ds kk el
      cases hj : ixN ds.length kk with
      | none => rw [hj] at e4; cases e4
      | some j =>
        rw [hj] at e4
        cases e4
        refine ⟨H₀, Hf₀, ρ, Hf, y, R, e1, fun v H1 Hf1 R1 s1 t1 h1 => ?_⟩
        obtain ⟨a, p1, ⟨xs, p2, p3⟩, p4, p5⟩ := R1.ow i _ el rfl
        refine ⟨_, p1, H₀, Hf₀, ρ, Hf1, _, R1, e3, fun w H2 Hf2 R2 s2 t2 h2 => ?_⟩
        cases Has.int_iff.mp h2
        obtain ⟨a', r1, ⟨ys, r2, r3⟩, r4, r5⟩ := R2.ow i _ el rfl
        rw [p1] at r1; cases r1
        exact ⟨a, ys, kk, j, rfl, rfl, r2, by rw [r3.length]; exact hj, k _ _ _ (R2.updOwn el rfl p1 rfl ⟨_, upd_same, r3.set (h1.mono t2) j⟩) (t1.trans t2)⟩
    · cases e4
end
@[simp] theorem s_sliceX {f : FE} {l u : FP} {ρ : Rho} : sliceX f l u ρ = (f ρ).bind fun x => (l ρ).bind fun lo => (u ρ).bind fun hi => match x with
  | .tup ds => some (.tup (cutL ds lo hi))
  | .lst ds => some (.lst (cutL ds lo hi))
  | .str z => if z.length ≤ sizeLine then some (.str (cutS z lo hi)) else none
  | _ => none := rfl
@[simp] theorem s_seqX {f : FE} {ρ : Rho} : seqX f ρ = (f ρ).bind seqOfX := rfl
@[simp] theorem s_setIF {i : Nat} {g f : FE} {ρ : Rho} : setIF i g f ρ = (f ρ).bind fun y => (g ρ).bind fun x => match ρ[i]?, x with
  | some (.ol ds), .int k => (ixN ds.length k).bind fun j => some (.nx (ρ.set i (.ol (ds.set j y))))
  | _, _ => none := rfl
@[simp] theorem s_ttD {φ : Str → Str → Int} {z y : Str} : ttD φ (.str z) (.str y) = some (.int (φ z y)) := rfl
end FL
set_option Elab.async false
set_option linter.all false
set_option maxRecDepth 100000
set_option maxHeartbeats 4000000
namespace FL
open PySem PySem.Spec PyProof.Rows L2
section
variable {K : PySem.W.Frag} {C p dx l : Addr} {H Hf H' Hf' H2 Hf2 : Hp} {hd wd : D} {ms : List D}
end
section
variable (gA gT gI gS : List D → Option D)
variable (gL : List D → Option D)
end
end FL
set_option Elab.async false
set_option linter.all false
set_option maxRecDepth 100000
set_option maxHeartbeats 4000000
namespace FL
open PySem PySem.Spec PyProof.Rows L2
theorem objThere {P : Program} {w : World} {H : Hp} {h : Heap} {a : Addr} {o : HO} (x : ObjOk P w H h a o) : ∃ u, h.get? a = some u := by
  cases o with
  | lst xs => obtain ⟨_, _, _, _, e⟩ := x; exact ⟨_, e⟩
  | tup xs => obtain ⟨_, _, _, ⟨_, e, _⟩⟩ := x; exact ⟨_, e⟩
  | dK kvs => obtain ⟨_, _, _, _, o, _, _, e, _⟩ := x; exact ⟨_, e⟩
  | dT kvs => obtain ⟨_, _, _, _, o, _, _, e, _⟩ := x; exact ⟨_, e⟩
  | set S n => obtain ⟨o, _, _, _, e, _⟩ := x; exact ⟨_, e⟩
  | ins C dx fs => obtain ⟨_, _, _, e, _⟩ := x; exact ⟨_, e⟩
  | own y => exact x
  | xd fs => obtain ⟨_, ⟨_, _, _, e, _⟩, _⟩ := x; exact ⟨_, e⟩
  | rng lo hi => obtain ⟨_, _, _, e⟩ := x; exact ⟨_, e⟩
  | frz ob u => obtain ⟨e, _⟩ := x; exact ⟨_, e⟩
  | tbl ps => exact ⟨_, x⟩
  | met f y => exact ⟨_, x⟩
  | ext φ => obtain ⟨_, e, _⟩ := x; exact e
def Flies (outer : List Env) (h₀ : Heap) (H : Hp) (a C : Addr) (h : Heap) : Prop :=
  H a = none ∧ h₀.get? a = none ∧ ∃ (B : Heap) (t : Addr), Heap.FlyingW B outer a (.ref C) (.ref t) h ∧ (∀ b o, H b = some o → ∃ ob, B.get? b = some ob) ∧ ∀ b o, h₀.get? b = some o → b ∉ frs outer → ∃ ob, B.get? b = some ob
def CX1 (P : Program) (w : World) : CXT := fun outer H s E e s' => ∃ (a C : Addr) (H' : Hp), e = .ref a ∧ s'.os = s.os ∧ AllBare s'.gens ∧ Un (frs outer) [] H H' s.heap s'.heap ∧ HOk P w H' s'.heap ∧ Flies outer s.heap H' a C s'.heap ∧ E (.ref C) none H'
theorem leave1 {P : Program} {w : World} {K : PySem.W.Frag} {mg : Str → Option Value} {base : Heap} {N : List Str} {qual : Str} {scope : Scope} {f : Addr} {cdv : Value} {A : Around} {outer : List Env} {s₀ : Shared} {H₀ : Hp} {E : XK}
    {pins : List (Addr × Obj)} {σ : St} {H : Hp} {s : Shared} (I : Inv (cxOf (CX1 P w) P w K mg base N qual scope f cdv A outer s₀ H₀ E) pins σ H s) {h' : Heap} {e C : Addr} {vs : List Value} (hx : Heap.MadeExcOf s.heap h' e (.ref C) vs) (hE : E (.ref C) none H) :
    (cxOf (CX1 P w) P w K mg base N qual scope f cdv A outer s₀ H₀ E).xe (.ref e) { s with heap := h' } := by
  have hfr : (A.deeper (envOfC qual scope s₀.heap.objs.size f cdv)).frames = some (envOfC qual scope s₀.heap.objs.size f cdv :: outer) := I.ok.frames
  have stk : s.heap.FunFrames base (envOfC qual scope s₀.heap.objs.size f cdv :: outer) := I.stack
  have free : ∀ b ∈ frs (envOfC qual scope s₀.heap.objs.size f cdv :: outer), H b = none := I.stkFree
  have hin : ∀ env ∈ (envOfC qual scope s₀.heap.objs.size f cdv :: outer), ∀ b, env.frame = some b → b ∈ frs (envOfC qual scope s₀.heap.objs.size f cdv :: outer) := fun env he b hb => List.mem_filterMap.mpr ⟨env, he, hb⟩
  have hfrs : frs (envOfC qual scope s₀.heap.objs.size f cdv :: outer) = s₀.heap.objs.size :: frs outer := rfl
  have hnf : ∀ b ∈ frs outer, ∀ o, s₀.heap.get? b = some o → ∀ vs, o.data ≠ .fields vs := fun b hb o ho vs hd => by
    obtain ⟨_, o', ho', hn⟩ := I.ok.funs.mem hb
    rw [show (cxOf (CX1 P w) P w K mg base N qual scope f cdv A outer s₀ H₀ E).s₀ = s₀ from rfl] at ho'
    rw [ho] at ho'
    cases ho'
    exact hn vs hd
  refine wpAny_leaves_madeW (base := PySem.W.hideAll s.heap (frs (envOfC qual scope s₀.heap.objs.size f cdv :: outer))) hfr rfl (fun b o q => PySem.W.of_hideAll _ q) (PySem.W.funFrames_hide stk hin) hx fun h2 t fl tup bt up => ?_
  have stay : ∀ b o, s.heap.get? b = some o → b ∉ frs (envOfC qual scope s₀.heap.objs.size f cdv :: outer) → h2.get? b = some o := fun b o q hb => fl.1 b o (PySem.W.hideAll_get _ q hb)
  have old : ∀ b o, s₀.heap.get? b = some o → b ∉ frs outer → b ∉ frs (envOfC qual scope s₀.heap.objs.size f cdv :: outer) := fun b o q hb hm => by
    rw [hfrs] at hm
    rcases List.mem_cons.mp hm with z | z
    · subst z
      exact absurd (Heap.lt_size q) (Nat.lt_irrefl _)
    · exact hb z
  have noex : ∀ b : Addr, b ∉ (cxOf (CX1 P w) P w K mg base N qual scope f cdv A outer s₀ H₀ E).ex := fun b z => absurd (show b ∈ ([] : List Addr) from z) (by simp)
  have sl : ∀ b ∈ frs outer, ∀ o, s₀.heap.get? b = some o → ∃ sl, h2.get? b = some { o with slots := sl } := fun b hb o ho => by
    obtain ⟨sl1, e1⟩ := I.base.slot b o ho (I.ok.frf b hb) hb (noex b)
    obtain ⟨sl2, e2⟩ := up b _ (hx.keeps b _ e1) fun vs hd => hnf b hb o ho vs hd
    exact ⟨sl2, e2⟩
  refine ⟨e, C, H, rfl, I.os, I.bare, ⟨fun b o q n hb _ => ?_, fun b o q n hb _ => sl b hb o q, fun b o q n _ => I.base.free b o q n (noex b), fun b o q _ => ?_, I.base.tups, I.base.frzs, I.base.tbls⟩, ?_, ⟨?_, ?_, _, t, fl, fun b o q => ?_, fun b o q hb => ?_⟩, hE⟩
  · exact stay b o (I.base.keep b o q n hb (noex b)) (old b o q hb)
  · by_cases hb : b ∈ frs outer
    · obtain ⟨s1, e1⟩ := sl b hb o q
      exact ⟨_, e1⟩
    · obtain ⟨o1, e1⟩ := I.base.there b o q (noex b)
      exact ⟨o1, stay b o1 e1 (old b o q hb)⟩
  · intro b o q
    refine (I.hok b o q).stay (fun c u hc e1 => stay c u e1 fun hm => ?_) (fun _ z => z) fun _ _ z => z
    have := free c hm
    rcases hc with z | z
    · subst z; rw [q] at this; cases this
    · rw [z] at this; cases this
  · cases z : H e with
    | none => rfl
    | some o =>
      obtain ⟨u, hu⟩ := objThere (I.hok e o z)
      rw [hx.new] at hu
      cases hu
  · cases z : s₀.heap.get? e with
    | none => rfl
    | some o =>
      obtain ⟨u, hu⟩ := I.base.there e o z (noex e)
      rw [hx.new] at hu
      cases hu
  · obtain ⟨ob, e1⟩ := objThere (I.hok b o q)
    exact ⟨ob, PySem.W.hideAll_get _ e1 fun hm => by have := free b hm; rw [q] at this; cases this⟩
  · obtain ⟨o1, e1⟩ := I.base.there b o q (noex b)
    exact ⟨o1, PySem.W.hideAll_get _ e1 (old b o q hb)⟩
theorem ps_raise {P : Program} {w : World} {K : PySem.W.Frag} {mg : Str → Option Value} {base : Heap} {N : List Str} {qual : Str} {scope : Scope} {f : Addr} {cdv : Value} {A : Around} {outer : List Env} {s₀ : Shared} {H₀ : Hp} {E : XK}
    {x z : Str} {j : Nat} {np p2 cpos pos : Pos} {C : Addr} {bm : List Value} {B newId initId : String} (O : OwnCls x C bm newId mg base) (FB : ExcBaseFacts B newId initId bm) (hg : Gl (cxOf (CX1 P w) P w K mg base N qual scope f cdv A outer s₀ H₀ E) x) (hd : (x == ("__debug__" : Str)) = false := by decide) :
    PS (cxOf (CX1 P w) P w K mg base N qual scope f cdv A outer s₀ H₀ E) (.Raise (some (.Call (.Name x np) [.Constant (.str z) j p2] [] cpos)) none pos) (fun _ _ H => E (.ref C) none H) := by
  intro pins s σ H D' I hE
  obtain ⟨tl, N', nm, q, bs, hdct, sn, sub, ab, col, dd, k0, k1, k2, k3, k5, mN, hC, hN, hni, T⟩ := O.obj
  refine wpAny_Raise_call_subT (C := C) (nm := nm) (q := q) (N := N') (bs := bs) (bm := tl) (hdct := hdct) (sn := sn) (sub := sub) (ab := ab) (col := col) (dd := dd) (k0 := k0) (k1 := k1) (k2 := k2) (k3 := k3) (k5 := k5)
    FB (mN := mN) (T.hasType FB.hasBase) (I.ok.hd rfl) rfl hni (ld_glob I hg O.bound ⟨rfl, ?_⟩ hd)
  have pa := pa_cons (X := cxOf (CX1 P w) P w K mg base N qual scope f cdv A outer s₀ H₀ E) (pe_str (x := z) (j := j) (pos := p2)) pa_nil
  refine Calls.evalArgs_plain (thn (pa cpos pins s σ H (fun vs H1 => vs = [V.str z] ∧ H1 = H) I ⟨rfl, rfl⟩) fun us s2 ⟨vs, H1, I1, r1, q1, q2⟩ => ?_)
  subst q2
  have hk : ∀ b o, base.get? b = some o → s2.heap.get? b = some o := I1.bk
  refine ⟨rfl, ?_, hk _ _ hC, hN.keeps hk, T.keeps hk, fun h' e hx => leave1 I1 hx hE⟩
  show us.length ≤ sizeLine
  rw [← r1.length, q1]
  show 1 ≤ sizeLine
  decide
end FL
set_option Elab.async false
set_option linter.all false
set_option maxRecDepth 100000
set_option maxHeartbeats 4000000
namespace FL
open PySem PySem.Spec PyProof.Rows L2
theorem un_fly {fs : List Addr} {H H' : Hp} {h h1 h2 B : Heap} (u : Un fs [] H H' h h1) (fr : ∀ b ∈ fs, H b = none ∧ ∀ o, h.get? b = some o → ∀ vs, o.data ≠ .fields vs)
    (cv : ∀ b o, h.get? b = some o → b ∉ fs → ∃ ob, B.get? b = some ob) (k1 : B.StaysIn h1) (k2 : B.StaysIn h2) (up : h1.UpToSlots h2) : Un fs [] H H' h h2 := by
  have same : ∀ b o o', h.get? b = some o' → b ∉ fs → h1.get? b = some o → h2.get? b = some o := fun b o o' q n e => by
    obtain ⟨ob, z⟩ := cv b o' q n
    have := k1 b ob z
    rw [e] at this
    cases this
    exact k2 b _ z
  have slt : ∀ b o, h.get? b = some o → b ∈ fs → ∃ sl, h2.get? b = some { o with slots := sl } := fun b o q hb => by
    obtain ⟨n, nf⟩ := fr b hb
    obtain ⟨s1, e1⟩ := u.slot b o q n hb (by simp)
    obtain ⟨s2, e2⟩ := up b _ e1 fun vs => nf o q vs
    exact ⟨s2, e2⟩
  refine ⟨fun b o q n hb _ => same b o o q hb (u.keep b o q n hb (by simp)), fun b o q _ hb _ => slt b o q hb, fun b o q n _ => u.free b o q n (by simp), fun b o q _ => ?_, u.tups, u.frzs, u.tbls⟩
  by_cases hb : b ∈ fs
  · obtain ⟨sl, e⟩ := slt b o q hb
    exact ⟨_, e⟩
  · obtain ⟨o', e⟩ := u.there b o q (by simp)
    exact ⟨o', same b o' o q hb e⟩
theorem hok_fly {P : Program} {w : World} {H : Hp} {h1 h2 B : Heap} (k : HOk P w H h1) (cv : ∀ b o, H b = some o → ∃ ob, B.get? b = some ob) (k1 : B.StaysIn h1) (k2 : B.StaysIn h2) : HOk P w H h2 := fun b o q => by
  refine (k b o q).stay (fun c u hc e => ?_) (fun _ z => z) fun _ _ z => z
  have : ∃ oc, H c = some oc := by
    rcases hc with z | z
    · subst z; exact ⟨_, q⟩
    · exact ⟨_, z⟩
  obtain ⟨oc, hc'⟩ := this
  obtain ⟨ob, z⟩ := cv c oc hc'
  have := k1 c ob z
  rw [e] at this
  cases this
  exact k2 c _ z
def ExAt (a C : Addr) (h : Heap) : Prop := ∃ o, h.get? a = some o ∧ o.cls = .ref C
def exO (a C : Addr) : HO := .ext (ExAt a C)
theorem un_new {fs : List Addr} {H H' : Hp} {h h1 : Heap} {a : Addr} {o : HO} (u : Un fs [] H H' h h1) (ha : h.get? a = none) (hn : H' a = none) : Un fs [] H (upd H' a o) h h1 := by
  have ne : ∀ b ob, h.get? b = some ob → b ≠ a := fun b ob q z => by subst z; rw [ha] at q; cases q
  have ne2 : ∀ b ob, H' b = some ob → b ≠ a := fun b ob q z => by subst z; rw [hn] at q; cases q
  refine ⟨u.keep, u.slot, fun b ob q n hx => by rw [upd_ne (ne b ob q)]; exact u.free b ob q n hx, u.there, fun b xs q => by rw [upd_ne (ne2 b _ (u.tups b xs q))]; exact u.tups b xs q,
    fun b ob x q => by rw [upd_ne (ne2 b _ (u.frzs b ob x q))]; exact u.frzs b ob x q, fun b ps q => ?_⟩
  obtain ⟨m, e⟩ := u.tbls b ps q
  exact ⟨m, by rw [upd_ne (ne2 b _ e)]; exact e⟩
theorem hok_new {P : Program} {w : World} {H : Hp} {h : Heap} {a C : Addr} (k : HOk P w H h) (hn : H a = none) (x : ExAt a C h) : HOk P w (upd H a (exO a C)) h := fun b o q => by
  by_cases z : b = a
  · subst z
    rw [upd_same] at q
    cases q
    obtain ⟨ob, e, c⟩ := x
    exact ⟨⟨ob, e, c⟩, ⟨ob, e⟩, fun h1 h2 ⟨o1, e1, c1⟩ kk => ⟨o1, kk _ e1, c1⟩⟩
  · rw [upd_ne z] at q
    exact (k b o q).stay (fun _ _ _ e => e) (fun c e => by rw [upd_ne (ne_of_none e hn)]; exact e) fun c xs e => by rw [upd_ne (ne_of_none e hn)]; exact e
abbrev mrk (X : Cx) (e : Value) : Cx := { X with A := X.A.mark (some e), calm := false }
section
variable {X : Cx} {pins : List (Addr × Obj)} {σ : St} {H : Hp} {s : Shared} {e : Value}
theorem inv_mrk (I : Inv X pins σ H s) : Inv (mrk X e) pins σ H s :=
  ⟨⟨I.ok.mod, I.ok.kind, I.ok.glob, I.ok.blt, I.ok.above, I.ok.inj, I.ok.has, I.ok.cab, (fun z => by cases z), I.ok.frames, I.ok.stk, I.ok.exf, I.ok.bs, I.ok.bsz, I.ok.noex, I.ok.exfs, I.ok.funs, I.ok.frf⟩, I.os, I.bare, I.base, I.loc, I.cell, I.free, I.freeC, I.pin, I.hok, I.len⟩
theorem inv_unmrk (hd : X.calm = true → X.A.handled = none) (I : Inv (mrk X e) pins σ H s) : Inv X pins σ H s :=
  ⟨⟨I.ok.mod, I.ok.kind, I.ok.glob, I.ok.blt, I.ok.above, I.ok.inj, I.ok.has, I.ok.cab, hd, I.ok.frames, I.ok.stk, I.ok.exf, I.ok.bs, I.ok.bsz, I.ok.noex, I.ok.exfs, I.ok.funs, I.ok.frf⟩, I.os, I.bare, I.base, I.loc, I.cell, I.free, I.freeC, I.pin, I.hok, I.len⟩
end
structure Catches (K : PySem.W.Frag) (D C : Addr) : Prop where
  ty : PySem.W.typeIn K (.ref D) = some (.type "type")
  cls : PySem.W.hasDictIn K D = true
  exc : PySem.W.subIn K (.ref D) (.type "BaseException") = some true
  sub : PySem.W.subIn K (.ref C) (.ref D) = some true
theorem excM_own {K : PySem.W.Frag} {D C a : Addr} (c : Catches K D C) {M : Model} {A : Around} {E : Value → Shared → Prop} {Q : Bool → Shared → Prop} {s : Shared} (X : K.In s.heap) (x : ExAt a C s.heap) (h : Q true s) :
    wpAny M A (excMatches (.ref a) (.ref D)) Q E s := by
  obtain ⟨hh, g, d, t, os⟩ := s
  obtain ⟨o, e, cc⟩ := x
  have L0 := PySem.W.looks_typeIn (M := M) X c.ty
  have L1 : PySem.W.Looks M hh (isSubtype (.type "type") (.type "tuple")) false := PySem.W.Looks.of_pure (by rw [isSubtype_type]; kernel_rfl)
  have L2 := PySem.W.looks_subIn (M := M) X c.exc
  have L3 : PySem.W.Looks M hh (typeOf (.ref a)) (.ref C) := cc ▸ (PySem.W.Looks.ld e).andThen .now
  have L4 := PySem.W.looks_subIn (M := M) X c.sub
  have L5 : PySem.W.Looks M hh (isInstance (.ref D) (.type "tuple")) false := L0.andThen L1
  have L6 : PySem.W.Looks M hh (isType (.ref D)) true := by
    obtain ⟨cd, z, _⟩ := PySem.W.any_some c.cls
    unfold PySem.W.clsIn at z
    split at z
    · rename_i ho
      intro A' Q' E' s' k q
      unfold isType loadHead
      exact wpAny_bind (wpAny_loadPart (k _ _ (X _ _ ho)) (wpAny_pure q))
    · cases z
  unfold excMatches isExcClass
  refine wpAny_bind (L5.at ?_)
  simp only [Bool.false_eq_true, if_false]
  refine wpAny_bind (wpAny_pure ?_)
  simp only [List.forIn_cons, List.forIn_nil]
  refine wpAny_bind (wpAny_bind (wpAny_bind (wpAny_bind (L6.at ?_))))
  rw [if_pos rfl]
  refine L2.at ?_
  simp only [Bool.not_true, Bool.false_eq_true, if_false]
  refine wpAny_pure (wpAny_pure (wpAny_bind (L3.at ?_)))
  refine wpAny_bind (wpAny_bind (wpAny_bind (L4.at ?_)))
  rw [if_pos rfl]
  refine wpAny_pure (wpAny_pure ?_)
  exact wpAny_pure h
theorem handleBy_parent {prog : Program} {w : World} {A : Around} {E : Value → Shared → Prop} {s : Shared} {env : Env} {K : PySem.W.Frag} {e D C : Addr} (c : Catches K D C) {t : Expr} {n : Str} {b₀ : Stmt} {suite : List Stmt} {pos : Pos} {rest : List ExceptHandler} {Q : Flow → Shared → Prop}
    (h : wpAny (model prog w) (A.mark (some (.ref e))) (eval t env) (fun c s₁ => c = .ref D ∧ K.In s₁.heap ∧ ExAt e C s₁.heap ∧
      wpAny (model prog w) (A.mark (some (.ref e))) (setFlight (.ref e) none) (fun _ s₂ =>
          wpAny (model prog w) (A.mark (some (.ref e))) (storeName env n (.ref e)) (fun _ s₃ =>
            wpAny (model prog w) (A.mark (some (.ref e))) (execs (b₀ :: suite) env)
              (fun f s₄ => wpAny (model prog w) A (do bindName env n .none; unbindBehindTheSuite env n pos) (fun _ s₅ => Q f s₅) E s₄)
              (fun _ _ => False) s₃) (fun _ _ => False) s₂) (fun _ _ => False) s₁) (fun _ _ => False) s) :
    wpAny (model prog w) A (handleBy (.ref e) env (.ExceptHandler (some t) (some n) (b₀ :: suite) pos :: rest)) Q E s := by
  refine wpAny_handleBy_cons (codeAny_handlers_test (wpAny_mono h (fun c s₁ h₁ => ?_) fun _ _ y => y.elim)) (by intro q; cases q)
  obtain ⟨rfl, KX, x, hk⟩ := h₁
  refine excM_own ‹_› KX x (codeAny_handlers_suite_as ?_)
  refine wpAny_mono hk (fun _ s₂ k2 => ?_) fun _ _ y => y.elim
  refine wpAny_mono k2 (fun _ s₃ k3 => ?_) fun _ _ y => y.elim
  exact wpAny_mono k3 (fun _ _ z => z) fun _ _ y => y.elim
section
variable {X : Cx} {pins : List (Addr × Obj)} {σ : St} {H : Hp} {s : Shared}
theorem inv_drop {i : Nat} {n : Str} {u : Option Value} {h' : Heap} {m : Str → Option Value} {t' : Nat} (I : Inv X pins σ H s) (hN : X.N.Nodup) (hi : X.N[i]? = some n) (hn : s.heap.Ns X.env.locals m) (hn' : h'.Ns X.env.locals (fun y => if y = n then u else m y))
    (hs : Heap.SameBut X.env.locals s.heap h') : Inv X pins (σ.set i none) H { s with heap := h', toks := t' } := by
  have hiσ : i < σ.length := by rw [I.len]; exact (List.getElem?_eq_some_iff.mp hi).1
  obtain ⟨m0, hn0, hl⟩ := id I.loc
  obtain ⟨oL, _, _, hoL, _⟩ := id hn
  have em : ∀ y, m0 y = m y := fun y => by rw [hn0.eq_nsMap, ← hn.eq_nsMap]
  refine ⟨I.ok, I.os, I.bare, ⟨fun b o e n hb hx => ?_, fun b o e n hb hx => ?_, I.base.free, fun b o e hx => ?_, I.base.tups, I.base.frzs, I.base.tbls⟩, ⟨_, hn', fun j y v' e1 e2 e3 => ?_⟩, fun y c e => ?_, I.free, I.freeC, fun p hp => ?_, fun b ob e => ?_, by simpa using I.len⟩
  · exact (hs.2 b (Nat.ne_of_lt (Nat.lt_of_lt_of_le (Heap.lt_size e) I.ok.above))).trans (I.base.keep b o e n hb hx)
  · obtain ⟨sl, e1⟩ := I.base.slot b o e n hb hx
    exact ⟨sl, (hs.2 b (Nat.ne_of_lt (Nat.lt_of_lt_of_le (Heap.lt_size e) I.ok.above))).trans e1⟩
  · obtain ⟨o', e1⟩ := I.base.there b o e hx
    exact ⟨o', (hs.2 b (Nat.ne_of_lt (Nat.lt_of_lt_of_le (Heap.lt_size e) I.ok.above))).trans e1⟩
  · by_cases hj : j = i
    · subst hj
      rw [List.getElem?_set_self hiσ] at e2
      cases e2
    · rw [List.getElem?_set_ne (Ne.symm hj)] at e2
      obtain ⟨u', r', q⟩ := hl j y v' e1 e2 e3
      refine ⟨u', r', ?_⟩
      rcases q with ⟨k, e⟩ | ⟨k, c, e, z⟩
      · refine .inl ⟨k, ?_⟩
        have : y ≠ n := fun e => hj (nodup_ix hN e1 (e ▸ hi))
        rw [em] at e
        simp [this, e]
      · exact .inr ⟨k, c, e, z.sameBut hs (I.cne y c e)⟩
  · obtain ⟨w', z⟩ := I.cell y c e
    exact ⟨w', z.sameBut hs (I.cne y c e)⟩
  · obtain ⟨e, n, ne, nf, d⟩ := I.pin p hp
    exact ⟨(hs.2 p.1 ne).trans e, n, ne, nf, d⟩
  · refine (I.hok b ob e).stay (fun c w' hc q => (hs.2 c ?_).trans q) (fun _ q => q) fun _ _ q => q
    intro z
    subst z
    have f := I.free
    rcases hc with hc | hc
    · rw [hc, e] at f; cases f
    · rw [hc] at f; cases f
theorem name_goes {M : Model} {A : Around} {E : Value → Shared → Prop} {Q : Unit → Shared → Prop} {i : Nat} {n : Str} {pos : Pos} (I : Inv X pins σ H s) (hN : X.N.Nodup) (hi : X.N[i]? = some n) (hl : X.env.scope.names.lookup n = some .local)
    (h : ∀ s', Inv X pins (σ.set i none) H s' → Q () s') : wpAny M A (do bindName X.env n .none; unbindBehindTheSuite X.env n pos) Q E s := by
  have hp : (X.env.scope.kind == .class || (X.env.scope.kind == .module && X.env.locals != X.env.globals)) = false := by rw [I.ok.kind]; rfl
  refine wpAny_bind (wpAny_bindName (store_ok (v := .non) I hN hi (.inl hl) rfl (fun s1 I1 => ?_) (.inr hl)))
  obtain ⟨m, hn, hv⟩ := id I1.loc
  have hiσ : i < σ.length := by rw [I.len]; exact (List.getElem?_eq_some_iff.mp hi).1
  obtain ⟨u, r, lk⟩ := hv i n .non hi (List.getElem?_set_self hiσ) (.inl hl)
  have hm : m n = some u := by
    rcases lk with z | ⟨z, _⟩
    · exact z.2
    · have : X.env.kindOf n = some .local := hl
      rcases z with z | z <;> (rw [this] at z; cases z)
  unfold unbindBehindTheSuite
  refine wpAny_onRaise (wpAny_unbindName_local hl hn hm hp fun h' u' hn' hs' => ?_)
  have J := inv_drop (t' := s1.toks) I1 hN hi hn hn' hs'
  rw [List.set_set] at J
  exact h _ J
end
def PTr (X : Cx) (body : List Stmt) (t : XK → TS) : Prop :=
  ∀ (pins : List (Addr × Obj)) (s : Shared) (σ : St) (H : Hp) (D : Ends) (E : XK), Inv X pins σ H s → t E D σ H → wpAny (model X.prog X.w) X.A (execs body X.env) (SP X pins D) (fun e s' => ∃ H0 s0, Inv X pins σ H0 s0 ∧ CX1 X.prog X.w X.stack H0 s0 E e s') s
theorem ps_try {X : Cx} {body : List Stmt} {tb : XK → TS} (hb : PTr X body tb) (hst : X.stack = X.env :: X.outer ∧ X.env.frame = some X.env.locals) {D : Addr} {dn n : Str} {i : Nat} {b₀ : Stmt} {suite : List Stmt} {ts : TS} {dp hp pos : Pos} (hg : Gl X dn) (hD : X.mg dn = some (.ref D)) (hN : X.N.Nodup) (hi : X.N[i]? = some n)
    (hl : X.env.scope.names.lookup n = some .local) (hs : ∀ a, PSs ((mrk X (.ref a)).wish fun _ _ => False) (b₀ :: suite) ts) (hdb : (dn == ("__debug__" : Str)) = false := by decide) :
    PS X (.Try body [.ExceptHandler (some (.Name dn dp)) (some n) (b₀ :: suite) hp] [] [] pos)
      (fun F σ H => tb (fun cl _ H' => ∃ C, cl = .ref C ∧ Catches X.K D C ∧ ∀ a, H' a = none → ts { nx := fun σ' H2 => F.nx (σ'.set i none) H2, rt := fun _ _ => False } (σ.set i (some (.ref a))) (upd H' a (exO a C))) F σ H) := by
  intro pins s σ H F I h
  refine wpAny_Try_except (wpAny_mono (hb pins s σ H F _ I h) (fun f s1 q => ?_) fun e s1 ⟨H0, s0, I0, a, C, H1, ea, os, bare, un, hok, ⟨hn, ha0, B, t, fl, cvH, cv0⟩, C', eC, ct, hq⟩ => ?_)
  · cases f with
    | next => exact wpAny_execs_nil q
    | ret u => exact q
    | brk => exact q
    | cont => exact q
  subst ea
  cases eC
  have fr : ∀ b ∈ frs X.stack, H0 b = none ∧ ∀ o, s0.heap.get? b = some o → ∀ vs, o.data ≠ .fields vs := fun b hb => by
    refine ⟨I0.stkFree b hb, fun o q vs hd => ?_⟩
    obtain ⟨_, o', ho', nf⟩ := I0.stack.mem hb
    rw [q] at ho'
    cases ho'
    exact nf vs hd
  have inv : ∀ h2 : Heap, B.StaysIn h2 → s1.heap.UpToSlots h2 → Inv X pins σ H1 { s1 with heap := h2 } := fun h2 k up =>
    I0.call' (ch := []) os (un_fly un fr cv0 fl.1 k up) (hok_fly hok cvH fl.1 k) bare (fun b z => absurd z (by simp))
  have hfr : X.A.frames = some (X.env :: X.outer) := by rw [I.ok.frames, hst.1]
  rw [hst.1] at fl
  refine wpAny_looks_onW hfr hst.2 fl fun h2 held up2 => ?_
  refine wpAny_landsW held fun h3 fl3 up3 => ?_
  refine handleBy_parent ct (ld_glob (X := mrk X (.ref a)) (inv_mrk (inv h3 fl3.1 (up2.trans up3))) hg hD ⟨rfl, (inv h3 fl3.1 (up2.trans up3)).kIn, fl3.there, ?_⟩ hdb)
  refine lands_againW fl3 fun h4 fl4 up4 => ?_
  have J : Inv X pins σ (upd H1 a (exO a C)) { s1 with heap := h4 } :=
    I0.call' (ch := []) os (un_new (un_fly un fr cv0 fl.1 fl4.1 ((up2.trans up3).trans up4)) ha0 hn) (hok_new (hok_fly hok cvH fl.1 fl4.1) hn fl4.there) bare (fun b z => absurd z (by simp))
  refine store_ok (X := mrk X (.ref a)) (v := .ref a) (inv_mrk J) hN hi (.inl hl) rfl (fun s5 I5 => ?_) (.inr hl)
  refine wpAny_mono (hs a pins s5 _ _ _ (I5.wish _) (hq a hn)) (fun f s6 q => ?_) fun _ _ z => z
  cases f with
  | next =>
    obtain ⟨σ', H2, I6, q6⟩ := q
    exact name_goes (inv_unmrk I.ok.hd I6.unwish) hN hi hl fun s7 I7 => ⟨_, _, I7, q6⟩
  | ret u => obtain ⟨_, _, _, _, _, z⟩ := q; exact z.elim
  | brk => obtain ⟨_, _, _, z⟩ := q; exact z.elim
  | cont => obtain ⟨_, _, _, z⟩ := q; exact z.elim
end FL
set_option Elab.async false
set_option linter.all false
set_option maxRecDepth 100000
set_option maxHeartbeats 4000000
namespace FL
open PySem PySem.Spec PySem.Calls PyProof.Rows L2
structure ExcCls (K : PySem.W.Frag) (C : Addr) : Prop where
  ga : PySem.W.findIn K (.ref C) "__getattribute__" = some (some (.builtin "BaseException.__getattribute__"))
  gh : PySem.W.findIn K (.ref C) "__getattr__" = some none
  ca : PySem.W.findIn K (.ref C) "__class__" = some (some (.builtin "object.__class__"))
  gt : PySem.W.specialIn K (.builtin "object.__class__") "__get__" = some (some (.builtin "getset_descriptor.__get__"))
  tk : PySem.W.takesIn K (.builtin "object.__class__") = some true
  ob : PySem.W.mroIn K C (.type "object") = some true
  be : PySem.W.mroIn K C (.type "BaseException") = some true
  cl : PySem.W.hasDictIn K C = true
section
variable {prog : Program} {w : World} {A : Around} {E : Value → Shared → Prop} {s : Shared} {K : PySem.W.Frag} {a C : Addr}
theorem ex_type {M : Model} {h : Heap} (x : ExAt a C h) : PySem.W.Looks M h (typeOf (.ref a)) (.ref C) := by
  obtain ⟨o, e, c⟩ := x
  exact c ▸ (PySem.W.Looks.ld e).andThen .now
open PySem.W PySem.Builtin PySem.Builtin.ObjectAttr PySem.Builtin.Getset_descriptor in
theorem ex_get {tp : Value} {R : Result → Shared → Prop} (c : ExcCls K C) (X : K.In s.heap) (x : ExAt a C s.heap) (h : R (.ok (.ret (.ref C))) s) :
    codeAny (model prog w) A (.call (.builtin "getset_descriptor.__get__") ⟨[.builtin "object.__class__", .ref a, tp], []⟩) R s := by
  obtain ⟨hh, g, dr, t, os⟩ := s
  have L0 := ex_type (M := model prog w) x
  have L1 := PySem.W.looks_mroIn (M := model prog w) X c.ob
  refine codeAny_call_builtin KF.slot_gs.plain KF.entry_gs (KF.slot_gs.check _ _ _ _ _ _ _ _ KF.type_class (KF.args_gs _ _ _) ?_)
  unfold Builtin.«getset_descriptor.__get__» descrGet
  rw [dga_obj]
  refine wpAny_bind (wpAny_pure ?_)
  unfold descrGetter descrCheckInstance descrNameAndClass isInstance
  simp only [KF.owner_class]
  repeat lk
  refine ⟨Code.quiet_builtin _ (by decide +kernel), codeAny_builtin KF.entry_class ?_⟩
  unfold Builtin.«object.__class__» shownTypeOf
  repeat lk
  exact h
open PySem.W PySem.Builtin PySem.Builtin.ObjectAttr PySem.Builtin.Getset_descriptor in
theorem ex_find {M : Model} {h : Heap} (c : ExcCls K C) (X : K.In h) : Looks M h (find (.ref a) (.ref C) "__class__") (.bind (.builtin "getset_descriptor.__get__") (.builtin "object.__class__")) := by
  have L1 := looks_findIn (M := M) X c.ca
  have L2 := looks_specialIn (M := M) X c.gt
  have L3 := looks_takesIn (M := M) X c.tk
  unfold find
  refine L1.andThen (L2.andThen ?_)
  refine Looks.andThen (a := some (.builtin "getset_descriptor.__get__", .builtin "object.__class__")) (L3.andThen .now) ?_
  exact Looks.tag .now
open PySem.W PySem.Builtin PySem.Builtin.ObjectAttr PySem.Builtin.Getset_descriptor in
theorem ex_cls {Q : Option Value → Shared → Prop} (c : ExcCls K C) (X : K.In s.heap) (x : ExAt a C s.heap) (h : Q (some (.ref C)) { s with toks := s.toks + 1 }) : wpAny (model prog w) A (getAttr? (.ref a) "__class__") Q E s := by
  obtain ⟨hh, g, d, t, os⟩ := s
  have L0 := ex_type (M := model prog w) x
  have L1 := looks_findIn (M := model prog w) X c.ga
  have L2 := looks_findIn (M := model prog w) X c.gh
  unfold getAttr? getAttrBy? getAttrBy
  refine wpAny_bind (wpAny_mkText (wpAny_bind (wpAny_attempt (wpAny_holding (wpAny_bind (L0.at (wpAny_bind (L1.at ?_))))))))
  show wpAny _ _ (getAttrByItsOwn (.ref a) _ (.ref C) (.builtin "BaseException.__getattribute__") false false) _ _ _
  unfold getAttrByItsOwn
  refine wpAny_bind ?_
  refine L2.at ?_
  refine wpAny_bind (wpAny_attempt (wpAny_holding ?_))
  show wpAny _ _ (boundAndCalled (.builtin "BaseException.__getattribute__") (.ref a) _) _ _ _
  unfold boundAndCalled
  rw [F.excAttr_ValueError.ga.bind]
  refine wpAny_bind (wpAny_pure ?_)
  have Lf := ex_find (a := a) (M := model prog w) c X
  have Lb := looks_mroIn (M := model prog w) X c.be
  refine wpAny_call (codeAny_call_builtin F.excAttr_ValueError.ga.plain F.entry_bexc_ga ?_)
  have hk : builtinKind "BaseException.__getattribute__" = some .slot := by decide +kernel
  have hsplit : splitId "BaseException.__getattribute__" = some ("BaseException", "__getattribute__") := by decide +kernel
  have ha := F.args_bexc_ga (.ref a) (Value.str (Str.ofString "__class__") t)
  simp only [checkBuiltinCall, hk, hsplit]
  refine wpAny_bind ((L0.andThen Lb).at ?_)
  rw [if_neg (by decide)]
  have ha' := ha
  unfold argsOk at ha'
  refine (congrArg (fun z => wpAny (model prog w) A.in1 z _ _ _) ha').mpr ?_
  refine wpAny_pure ?_
  unfold Builtin.«object.__getattribute__»
  refine wpAny_bind (wpAny_pure (wpAny_bind (wpAny_pure (wpAny_bind (L0.at (wpAny_bind (Lf.at ?_)))))))
  show wpAny _ _ (holding [.builtin "object.__class__"] (call (.builtin "getset_descriptor.__get__") [.builtin "object.__class__", .ref a, .ref C]) >>= ret) _ _ _
  refine wpAny_bind (wpAny_holding (wpAny_call (ex_get (s := ⟨hh, g, d, t + 1, os⟩) c X x ?_)))
  exact wpAny_pure (handed_on rfl (wpAny_pure h))
open PySem.W in
theorem kitx_exc (c : ExcCls K C) : KitX K (.ref a) (.ref C) (ExAt a C) where
  ty := fun _ _ _ x => ex_type x
  it := fun _ _ X _ => by
    obtain ⟨cdD, hcD, _⟩ := any_some c.cl
    unfold clsIn at hcD
    split at hcD
    · rename_i ho
      intro A' Q' E' s' k q
      unfold isType loadHead
      exact wpAny_bind (wpAny_loadPart (k _ _ (X _ _ ho)) (wpAny_pure q))
    · cases hcD
  ne := fun h tp dd its n sl X htp => by
    obtain ⟨cdD, hcD, _⟩ := any_some c.cl
    refine Bool.eq_false_iff.mpr fun q => ?_
    have e : C = tp := Value.ref.inj (beq_iff_eq.mp q)
    subst e
    unfold clsIn at hcD
    split at hcD
    · rename_i ho
      have z := (X _ _ ho).symm.trans htp
      cases z
    · cases hcD
  ca := fun X x k => ex_cls c X x k
end
def isiR (K : PySem.W.Frag) (xs : List V) (H : Hp) (Q : VK) : Prop := ∃ a C b, ExcCls K C ∧ H a = some (exO a C) ∧ Q (.bl b) H ∧
  ((∃ T, xs = [.ref a, .ty T] ∧ PySem.W.kitOne K (.ref C) (.type T) = some b) ∨ (∃ D, xs = [.ref a, .ref D] ∧ PySem.W.kitOne K (.ref C) (.ref D) = some b) ∨
    ∃ (tp : Addr) (cs : List Addr), xs = [.ref a, .ref tp] ∧ H tp = some (.tup (cs.map V.ref)) ∧ PySem.W.kitAny K (.ref C) (cs.map Value.ref) = some b)
theorem vals_refs : ∀ {cs : List Addr} {us : List Value}, Vals (cs.map V.ref) us → us = cs.map Value.ref
  | [], _, .nil => rfl
  | c :: r, _, .cons h t => by rw [vals_refs t]; cases h; rfl
theorem call_isi {X : Cx} : CallR X (.builtin "isinstance") (isiR X.K) := by
  intro pins s σ H xs us Q I r ⟨a, C, b, c, ha, hq, h⟩
  have x : ExAt a C s.heap := (I.hok a _ ha).1
  have fin : ∀ tk, EP X pins σ Q (.bool b) { s with toks := tk } := fun tk => ⟨.bl b, H, I.tok tk, rfl, hq⟩
  rcases h with ⟨T, e, k⟩ | ⟨D, e, k⟩ | ⟨tp, cs, e, ht, k⟩
  · subst e
    obtain _ | ⟨r1, _ | ⟨r2, _ | _⟩⟩ := r
    cases r1
    cases r2
    exact PySem.W.kia_one (kitx_exc c) I.kIn x k (by intro z; cases z) fin
  · subst e
    obtain _ | ⟨r1, _ | ⟨r2, _ | _⟩⟩ := r
    cases r1
    cases r2
    exact PySem.W.kia_one (kitx_exc c) I.kIn x k (by intro z; cases z) fin
  · subst e
    obtain _ | ⟨r1, _ | ⟨r2, _ | _⟩⟩ := r
    cases r1
    cases r2
    obtain ⟨_, its, rv, ob, eo, ec, n, ed⟩ := I.hok tp _ ht
    have e2 := vals_refs rv
    subst e2
    obtain ⟨oc, od, oda, osl⟩ := ob
    dsimp only at ec ed
    subst ec ed
    exact PySem.W.kia_tup (kitx_exc c) I.kIn x eo k (by intro z; cases z) fin
end FL
set_option Elab.async false
set_option linter.all false
set_option maxRecDepth 100000
set_option maxHeartbeats 4000000
namespace FL
open PySem PySem.Spec PyProof.Rows L2
inductive OutX where
  | o (x : Out)
  | ex (n : Str)
abbrev FSX := Rho → Option OutX
def EndX (mg : Str → Option Value) (K : PySem.W.Frag) (H₀ Hf₀ Hf : Hp) (D' : Ends) (E : XK) : OutX → Prop
  | .o x => EndO K H₀ Hf₀ Hf D' x
  | .ex n => ∀ C σ' ρ' H' Hf', mg n = some (.ref C) → Rep K H₀ Hf₀ σ' ρ' H' Hf' → Same Hf Hf' → E (.ref C) none H'
theorem EndX.mono {mg : Str → Option Value} {K : PySem.W.Frag} {H₀ Hf₀ Hf Hf1 : Hp} {D' : Ends} {E : XK} {o : OutX} (k : EndX mg K H₀ Hf₀ Hf D' E o) (t : Same Hf Hf1) : EndX mg K H₀ Hf₀ Hf1 D' E o := by
  cases o with
  | o x => exact EndO.mono k t
  | ex n => exact fun C σ' ρ' H' Hf' m R s => k C σ' ρ' H' Hf' m R (t.trans s)
def tX (mg : Str → Option Value) (K : PySem.W.Frag) (E : XK) (G : FSX) : TS := fun D' σ H => ∃ H₀ Hf₀ ρ Hf o, Rep K H₀ Hf₀ σ ρ H Hf ∧ G ρ = some o ∧ EndX mg K H₀ Hf₀ Hf D' E o
def DX (X : Cx) (E : XK) (st : Stmt) (G : FSX) : Prop := PS X st (tX X.mg X.K E G)
def DXs (X : Cx) (E : XK) (sts : List Stmt) (G : FSX) : Prop := PSs X sts (tX X.mg X.K E G)
section
variable {X : Cx} {E : XK} {c tg iter : Expr} {fi : FA} {ft : FT} {pos : Pos} {st : Stmt} {sts rest body : List Stmt} {F : FS} {G G1 G2 B : FSX} {γ : FG}
def liftX (F : FS) : FSX := fun ρ => (F ρ).map OutX.o
theorem dx_ds (h : DS X st F) : DX X E st (liftX F) := ps_imp h fun D' σ H ⟨H₀, Hf₀, ρ, Hf, o, R, q, k⟩ => by
  obtain ⟨o', e, rfl⟩ := Option.map_eq_some_iff.mp q
  exact ⟨H₀, Hf₀, ρ, Hf, o', R, e, k⟩
def nxX : FSX := fun ρ => some (.o (.nx ρ))
theorem dxs_nil : DXs X E [] nxX := pss_imp pss_nil fun D' σ H ⟨H₀, Hf₀, ρ, Hf, o, R, q, k⟩ => by cases q; exact k _ _ _ R sameR
def sqX (F G : FSX) : FSX := fun ρ => (F ρ).bind fun o => match o with
  | .o (.nx ρ') => G ρ'
  | o => some o
theorem dxs_cons (h1 : DX X E st G1) (h2 : DXs X E rest G2) : DXs X E (st :: rest) (sqX G1 G2) := pss_imp (pss_cons h1 h2) fun D' σ H ⟨H₀, Hf₀, ρ, Hf, o, R, q, k⟩ => by
  obtain ⟨o1, e1, e2⟩ := Option.bind_eq_some_iff.mp q
  refine ⟨H₀, Hf₀, ρ, Hf, o1, R, e1, ?_⟩
  cases o1 with
  | ex n => cases e2; exact k
  | o x =>
    cases x with
    | nx ρ' => exact fun σ' H' Hf' R' s' => ⟨H₀, Hf₀, ρ', Hf', o, R', e2, k.mono s'⟩
    | bk _ => cases e2; exact k
    | ct _ => cases e2; exact k
    | rt _ => cases e2; exact k
theorem dxs_one (h1 : DX X E st G) : DXs X E [st] G := pss_one h1
def ifX (c : FT) (F G : FSX) : FSX := fun ρ => (c ρ).bind fun b => if b = true then F ρ else G ρ
theorem dx_if {a b : List Stmt} (hc : DT X c ft) (ha : DXs X E a G1) (hb : DXs X E b G2) : DX X E (.If c a b pos) (ifX ft G1 G2) := ps_imp (ps_if hc ha hb) fun D' σ H ⟨H₀, Hf₀, ρ, Hf, o, R, q, k⟩ => by
  obtain ⟨x, e1, e2⟩ := Option.bind_eq_some_iff.mp q
  refine ⟨H₀, Hf₀, ρ, Hf, x, R, e1, fun H1 Hf1 R1 s1 t1 => ?_⟩
  cases x with
  | true => exact iteT ⟨H₀, Hf₀, ρ, Hf1, o, R1, e2, k.mono t1⟩
  | false => exact iteF ⟨H₀, Hf₀, ρ, Hf1, o, R1, e2, k.mono t1⟩
def loopX (γ : FG) (B : FSX) : List D → Rho → Option OutX
  | [], ρ => some (.o (.nx ρ))
  | d :: ds, ρ => (γ d ρ).bind fun ρ1 => (B ρ1).bind fun o => match o with
    | .o (.nx ρ2) => loopX γ B ds ρ2
    | .o (.ct ρ2) => loopX γ B ds ρ2
    | .o (.bk ρ2) => some (.o (.nx ρ2))
    | .o (.rt d) => some (.o (.rt d))
    | .ex n => some (.ex n)
def forX (fi : FA) (γ : FG) (B : FSX) : FSX := fun ρ => (fi ρ).bind fun ds => loopX γ B ds ρ
theorem dx_for (hp : PassesOwn (model X.prog X.w) X.A X.env X.xe) (hc : X.calm = true) (hi : DI X tg iter fi) (hg : DG X tg γ) (hb : DXs X E body B)
    (hs : ∀ x, foldedSetIterable iter X.env x = pure x := by intro _; rfl) : DX X E (.For tg iter body [] pos) (forX fi γ B) :=
  ps_imp (ps_for hp hc hi hg hb hs) fun D' σ H ⟨H₀, Hf₀, ρ, Hf, o, R, q, k⟩ => by
    obtain ⟨ds, e1, e2⟩ := bindA_some q
    refine ⟨H₀, Hf₀, ρ, Hf, ds, R, e1, fun J H1 Hf1 R1 _ t1 wk => ?_⟩
    have k1 := k.mono t1
    refine ⟨fun i m σ H => m = ds.length - i ∧ i ≤ ds.length ∧ ∃ ρ Hf', Rep X.K H₀ Hf₀ σ ρ H Hf' ∧ Same Hf1 Hf' ∧ loopX γ B (ds.drop i) ρ = some o, ⟨ds.length, by simp, Nat.zero_le _, ρ, Hf1, R1, sameR, by simpa using e2⟩, ?_⟩
    rintro i m σ2 H2 ⟨rfl, hi, ρ2, Hf2, R2, t2, el⟩
    obtain ⟨w1, w2⟩ := wk H2 Hf2 t2 R2.sf i
    by_cases hil : i < ds.length
    · right
      have hd : ds[i]? = some ds[i] := List.getElem?_eq_getElem hil
      obtain ⟨go, yld⟩ := w1 _ hd
      refine ⟨go, ?_⟩
      rw [List.drop_eq_getElem_cons hil] at el
      unfold loopX at el
      cases eg : γ ds[i] ρ2 with
      | none => rw [eg] at el; cases el
      | some ρ3 =>
        rw [eg] at el
        simp only [Option.bind_some] at el
        obtain ⟨o1, eb, eo⟩ := Option.bind_eq_some_iff.mp el
        refine ⟨fun σ' H' => ∃ ρ' Hf', Rep X.K H₀ Hf₀ σ' ρ' H' Hf' ∧ Same Hf1 Hf' ∧ loopX γ B (ds.drop (i + 1)) ρ' = some o, ?_, ?_⟩
        · rintro σ' H' ⟨ρ', Hf', R', t', e'⟩
          exact ⟨ds.length - (i + 1), by omega, rfl, hil, ρ', Hf', R', t', e'⟩
        · intro x H3 hy
          obtain ⟨Hf3, gr, hx⟩ := yld x H3 hy
          refine ⟨H₀, Hf₀, ρ2, Hf3, ds[i], ρ3, R2.grows gr, hx, eg, fun σ4 H4 Hf4 R4 t4 => ?_⟩
          refine ⟨H₀, Hf₀, ρ3, Hf4, o1, R4, eb, ?_⟩
          have tt : Same Hf1 Hf4 := (t2.trans gr.f).trans t4
          cases o1 with
          | ex n => cases eo; exact k1.mono tt
          | o x1 =>
            cases x1 with
            | nx ρ5 => exact fun σ5 H5 Hf5 R5 t5 => ⟨ρ5, Hf5, R5, tt.trans t5, eo⟩
            | ct ρ5 => exact fun σ5 H5 Hf5 R5 t5 => ⟨ρ5, Hf5, R5, tt.trans t5, eo⟩
            | bk ρ5 => cases eo; exact fun σ5 H5 Hf5 R5 t5 => k1 _ _ _ R5 (tt.trans t5)
            | rt d => cases eo; exact fun v σ5 ρ5 H5 Hf5 R5 t5 h5 => k1 _ _ _ _ _ R5 (tt.trans t5) h5
    · left
      have : ds.drop i = [] := List.drop_eq_nil_of_le (by omega)
      rw [this] at el
      cases el
      exact ⟨w2 (by omega), k1 _ _ _ R2 t2⟩
end
abbrev vErr : List Value := [.type "ValueError", .type "Exception", .type "BaseException", .type "object"]
structure ExT (K : PySem.W.Frag) (mg : Str → Option Value) (x : Str) (C : Addr) : Prop where
  at_ : mg x = some (.ref C)
  ok : PySem.W.excIn K C vErr "ValueError.__new__" = true
open PySem.W in
theorem ExT.own {K : Frag} {mg : Str → Option Value} {x : Str} {C : Addr} {h : Heap} (e : ExT K mg x C) (X : K.In h) : OwnCls x C vErr "ValueError.__new__" mg h := by
  refine ⟨e.at_, ?_⟩
  have q := e.ok
  unfold excIn at q
  split at q
  · rename_i dd cd sl ho
    split at q
    · rename_i C' bm k0 k1 k2 k3 n k5 hm hs
      simp only [Bool.and_eq_true, beq_iff_eq, Bool.not_eq_true'] at q
      obtain ⟨⟨⟨⟨⟨rfl, rfl⟩, hdel⟩, ht⟩, hok⟩, hni⟩ := q
      obtain ⟨nm, bs, mro, ns, qn, hd, sn, sub, ab, col, del⟩ := cd
      dsimp only at hm hdel hok hni
      subst hm hdel
      obtain ⟨l⟩ := sl
      dsimp only at hs
      subst hs
      exact ⟨bm, ns, nm, qn, bs, hd, sn, sub, ab, col, dd, k0, k1, k2, k3, k5, _, X _ _ ho, .of_isNs (isNs_of_in X hok), nsMap_none_of_in X hok hni, tail_of_in X ht⟩
    · cases q
  · cases q
def exX (n : Str) : FSX := fun _ => some (.ex n)
theorem dx_raise {P : Program} {w : World} {K : PySem.W.Frag} {mg : Str → Option Value} {base : Heap} {N : List Str} {qual : Str} {scope : Scope} {f : Addr} {cdv : Value} {A : Around} {outer : List Env} {s₀ : Shared} {H₀ : Hp} {E : XK}
    {x z : Str} {j : Nat} {np p2 cpos pos : Pos} {C : Addr} (O : ExT K mg x C) (hg : Gl (cxOf (CX1 P w) P w K mg base N qual scope f cdv A outer s₀ H₀ E) x) (hd : (x == ("__debug__" : Str)) = false := by decide) :
    DX (cxOf (CX1 P w) P w K mg base N qual scope f cdv A outer s₀ H₀ E) E (.Raise (some (.Call (.Name x np) [.Constant (.str z) j p2] [] cpos)) none pos) (exX x) := fun pins s σ H D' I ⟨H₀', Hf₀, ρ, Hf, o, R, q, k⟩ => by
  cases q
  exact ps_raise (O.own I.mod.kin) PySem.F.excBase_ValueError hg hd pins s σ H D' I (k C σ ρ H Hf O.at_ R sameR)
inductive RX where
  | v (d : D)
  | ex (n : Str)
def spX (mg : Str → Option Value) (K : PySem.W.Frag) (n : Nat) (g : List D → Option RX) : Sp := fun vs H Q E => ∃ Hf ds r, Same Hf H ∧ HasL K Hf ds vs ∧ ds.length = n ∧ g ds = some r ∧ match r with
  | .v d => ∀ v H' Hf', Grows H Hf H' Hf' → Has K Hf' d v → Q v H'
  | .ex x => ∀ C H' Hf', mg x = some (.ref C) → Grows H Hf H' Hf' → E (.ref C) none H'
def outX (o : Option OutX) : Option RX := match o with
  | some (.o (.rt d)) => some (.v d)
  | some (.o (.nx _)) => some (.v .non)
  | some (.ex n) => some (.ex n)
  | _ => none
def denX (m : Nat) (G : FSX) : List D → Option RX := fun ds => outX (G (startR m ds))
theorem fn_denX {P : Program} {w : World} {K : PySem.W.Frag} {mg : Str → Option Value} {base : Heap} {x qual : Str} {st : Stmt} {f : Addr} {fd : FuncData} {N ps : List Str} {k m n : Nat} {G : FSX} (hm : N.length = m) (hn : ps.length = n) (Fn : Fun K x qual st f fd) (S : FnScope N ps (defScope st))
    (body : ∀ (cdv : Value) (A : Around) (outer : List Env) (s : Shared) (H : Hp) (E : XK), Room k (A.deeper (envOfC qual (defScope st) s.heap.objs.size f cdv)) →
      DXs (cxOf (CX1 P w) P w K mg base N qual (defScope st) f cdv A outer s H E) E (defBody st) G) :
    FnOk P w K mg base (CX1 P w) (k + 1) f fd ps (spX mg K n (denX m G)) := by
  subst hm hn
  obtain ⟨oc, od, kV, doc, pm, an, cdv, ct, osl, rfl, lk, hcd⟩ := Fn.ex
  refine fn_of lk hcd S (fun vs H Q E h => ?_) (fun A outer s H vs Q E hr h => ?_)
  · obtain ⟨Hf, ds, d, _, h1, h2, _⟩ := h
    rw [h1.length]; exact h2
  · obtain ⟨Hf, ds, r, sf, h1, h2, h3, q⟩ := h
    refine ⟨_, body cdv A outer s H E hr, ?_⟩
    unfold denX outX at h3
    have R := rep_start (N := N) sf h1
    split at h3
    · cases h3
      rename_i d e
      exact ⟨H, Hf, _, Hf, _, R, e, fun v σ' ρ' H' Hf' R' _ hv => q v H' Hf' ⟨R'.s0, R'.f0, R'.sf, R'.nf⟩ hv⟩
    · cases h3
      rename_i ρ' e
      exact ⟨H, Hf, _, Hf, _, R, e, fun σ' H' Hf' R' _ => q _ H' Hf' ⟨R'.s0, R'.f0, R'.sf, R'.nf⟩ (Has.non_iff.mpr rfl)⟩
    · cases h3
      rename_i n e
      exact ⟨H, Hf, _, Hf, _, R, e, fun C σ' ρ' H' Hf' m R' _ => q C H' Hf' m ⟨R'.s0, R'.f0, R'.sf, R'.nf⟩⟩
    · cases h3
structure HasFnX (P : Program) (w : World) (K : PySem.W.Frag) (mg : Str → Option Value) (base : Heap) (k : Nat) (x : Str) (n : Nat) (g : List D → Option RX) : Prop where
  ex : ∃ (f : Addr) (fd : FuncData) (ps : List Str), FnOk P w K mg base (CX1 P w) k f fd ps (spX mg K n g) ∧ mg x = some (.ref f) ∧ PySem.W.keepIn K (.ref f) = true ∧ Binds K fd ps []
section
variable {mg : Str → Option Value} {K : PySem.W.Frag} {n : Nat} {g : List D → Option RX} {vs : List V} {H Hf : Hp} {Q : VK} {E : XK} {ds : List D}
theorem spX_v {d : D} (sf : Same Hf H) (hl : HasL K Hf ds vs) (hn : ds.length = n) (e : g ds = some (.v d)) (k : ∀ v H' Hf', Grows H Hf H' Hf' → Has K Hf' d v → Q v H') : spX mg K n g vs H Q E := ⟨Hf, ds, _, sf, hl, hn, e, k⟩
theorem spX_ex {x : Str} (sf : Same Hf H) (hl : HasL K Hf ds vs) (hn : ds.length = n) (e : g ds = some (.ex x)) (k : ∀ C H' Hf', mg x = some (.ref C) → Grows H Hf H' Hf' → E (.ref C) none H') : spX mg K n g vs H Q E := ⟨Hf, ds, _, sf, hl, hn, e, k⟩
end
end FL
set_option Elab.async false
set_option linter.all false
set_option maxRecDepth 100000
set_option maxHeartbeats 4000000
namespace FL
open PySem PySem.Spec PyProof.Rows L2
section
variable {X : Cx} {o e : Expr} {f g : FE} {kk : Nat}
theorem d_find {apos cpos : Pos} (ho : DE X o f) (he : DE X e g)
    (hbase : attributeBase o "find" X.env (eval o X.env) = eval o X.env := by rfl)
    (hfew : ((backTo cpos (starEach [e] X.env)).all (fun x => !x.1) && (backToKw cpos (keywordEach [] X.env)).all (fun x => x.1.isSome)
      && decide (([e] : List Expr).length + ([] : List Keyword).length + (if ([] : List Keyword).isEmpty then 0 else 1) < 30)) = true := by rfl)
    (hline : (apos.endLine == cpos.line) = true := by rfl) (hst : starEach [e] X.env = (false, eval e X.env) :: starEach [] X.env := by rfl) (hplain : (backTo cpos (starEach [] X.env)).any (·.1) = false := by rfl) :
    DE X (.Call (.Attribute o "find" apos) [e] [] cpos) (bind2 (ttD Txt.find) f g) := d_tt PySem.F.slot_str_find PySem.F.type_str_find mt_find ho he hbase hfew hline hst hplain
def idxS (z y : Str) : Option Nat := (Builtin.Str.occurrences z y 0 z.length 1).head?
def rIdx : V → List V → Hp → VK → Prop := fun x vs H Q => ∃ z y i, x = .str z ∧ vs = [.str y] ∧ idxS z y = some i ∧ Q (.int (i : Int)) H
theorem mt_index : MtR X "str.index" rIdx := by
  intro pins s σ H x vs v us Q I rx rv h
  obtain ⟨z, y, i, rfl, rfl, hi, q⟩ := h
  obtain ⟨t, rfl⟩ := rx
  obtain ⟨u, rfl, t', rfl⟩ := vals1 rv
  obtain ⟨rest, e⟩ := List.head?_eq_some_iff.mp hi
  exact SC.index e ⟨.int _, H, I.tok _, ⟨_, rfl⟩, q⟩
def idxD : D → D → Option D
  | .str z, .str y => (idxS z y).map fun (i : Nat) => .int (i : Int)
  | _, _ => none
theorem d_index {apos cpos : Pos} (ho : DE X o f) (he : DE X e g)
    (hbase : attributeBase o "index" X.env (eval o X.env) = eval o X.env := by rfl)
    (hfew : ((backTo cpos (starEach [e] X.env)).all (fun x => !x.1) && (backToKw cpos (keywordEach [] X.env)).all (fun x => x.1.isSome)
      && decide (([e] : List Expr).length + ([] : List Keyword).length + (if ([] : List Keyword).isEmpty then 0 else 1) < 30)) = true := by rfl)
    (hline : (apos.endLine == cpos.line) = true := by rfl) (hst : starEach [e] X.env = (false, eval e X.env) :: starEach [] X.env := by rfl) (hplain : (backTo cpos (starEach [] X.env)).any (·.1) = false := by rfl) :
    DE X (.Call (.Attribute o "index" apos) [e] [] cpos) (bind2 idxD f g) :=
  pe_imp (pe_bm PySem.F.plainAttrs_str PySem.F.slot_str_index PySem.F.type_str_index mt_index ho (pa_cons he pa_nil hst) hbase hfew hline hst hplain) fun σ H Q ⟨H₀, Hf₀, ρ, Hf, d, R, q, k⟩ => by
    obtain ⟨x, y, e1, e2, e3⟩ := bind2_some q
    refine ⟨H₀, Hf₀, ρ, Hf, x, R, e1, fun v H1 Hf1 R1 s1 t1 h1 => ?_⟩
    unfold idxD at e3
    split at e3
    · obtain ⟨i, hi, rfl⟩ := Option.map_eq_some_iff.mp e3
      cases Has.str_iff.mp h1
      refine ⟨rfl, H₀, Hf₀, ρ, Hf1, _, R1, e2, fun v' H2 Hf2 R2 s2 t2 h2 => ?_⟩
      cases Has.str_iff.mp h2
      exact ⟨_, _, i, rfl, rfl, hi, k _ _ _ R2 (s1.trans s2) (t1.trans t2) (Has.int_iff.mpr rfl)⟩
    · cases e3
end
open Builtin Builtin.Str in
theorem split_at {prog : Program} {w : World} {A : Around} {E : Value → Shared → Prop} {s : Shared} {x y : Str} {t u : Tok} {Q : Value → Shared → Prop} (hy : (y.length == 0) = false)
    (hsz : x.length ≤ sizeLine) (hsz2 : (partsBetween x (occurrences x y 0 x.length (x.length + 1)) y.length).length ≤ sizeLine)
    (hq : ∀ (l : List (Str × Tok)) (tk : Tok), l.map (·.1) = Txt.split x y → Q (.ref s.heap.objs.size) { s with toks := tk, heap := s.heap.push { cls := .type "list", data := .seq (strValues l).toArray } }) :
    wpAny (model prog w) A (call (.builtin "str.split") [.str x t, .str y u]) Q E s := by
  cases h1 : (decide (x.length < y.length) || decide (strKind x < strKind y))
  · cases hf : (occurrences x y 0 x.length (x.length + 1)).isEmpty
    · refine call_meets F.slot_str_split (typeIs_str _ _ _) F.entry_str_split (F.args_str_split_2 _ _) (meets_str_split_sep x y t u h1 hy hf hsz hsz2) ?_
      show wants Q E _ { s with toks := _, heap := s.heap.push { cls := .type "list", data := .seq (strsFrom s.toks (partsBetween x (occurrences x y 0 x.length (x.length + 1)) y.length)).toArray } }
      rw [strsFrom_eq]
      exact hq (numbered s.toks _) _ ((numbered_texts _ _).trans ((if_neg (ne_true_of_eq_false h1)).trans (if_neg (ne_true_of_eq_false hf))).symm)
    · exact call_meets F.slot_str_split (typeIs_str _ _ _) F.entry_str_split (F.args_str_split_2 _ _) (meets_str_split_not_found x y t u h1 hy hf)
        (hq [(x, t)] s.toks ((if_neg (ne_true_of_eq_false h1)).trans (if_pos hf)).symm)
  · exact call_meets F.slot_str_split (typeIs_str _ _ _) F.entry_str_split (F.args_str_split_2 _ _) (meets_str_split_cannot_occur x y t u h1)
      (hq [(x, t)] s.toks (if_pos h1).symm)
section
variable {X : Cx} {o e : Expr} {f g : FE} {kk : Nat}
open Builtin Builtin.Str in
def SplitOk (x y : Str) : Prop := (y.length == 0) = false ∧ x.length ≤ sizeLine ∧ (partsBetween x (occurrences x y 0 x.length (x.length + 1)) y.length).length ≤ sizeLine ∧ (Txt.split x y).length ≤ sizeLine
def rSplit : V → List V → Hp → VK → Prop := fun x vs H Q => ∃ z y, x = .str z ∧ vs = [.str y] ∧ SplitOk z y ∧ ∀ p, H p = none → Q (.ref p) (upd H p (.lst ((Txt.split z y).map V.str)))
theorem strs_vals : ∀ (l : List (Str × Tok)), Vals ((l.map (·.1)).map V.str) (strValues l)
  | [] => .nil
  | p :: l => .cons ⟨_, rfl⟩ (strs_vals l)
theorem mt_split : MtR X "str.split" rSplit := by
  intro pins s σ H x vs v us Q I rx rv h
  obtain ⟨z, y, rfl, rfl, ⟨h1, h2, h3, h4⟩, q⟩ := h
  obtain ⟨t, rfl⟩ := rx
  obtain ⟨u, rfl, t', rfl⟩ := vals1 rv
  refine split_at h1 h2 h3 fun l tk hl => ?_
  have hf : H s.heap.objs.size = none := I.hok.fresh (Nat.le_refl _)
  have rl := strs_vals l
  rw [hl] at rl
  refine ⟨.ref s.heap.objs.size, upd H s.heap.objs.size (.lst ((Txt.split z y).map V.str)), I.laid (t' := tk) (fun b u e => Heap.get?_push_of_some _ e) (Nat.le_refl _) ?_, rfl, q _ hf⟩
  exact ⟨by rw [List.length_map]; exact h4, strValues l, _, rl, Heap.get?_push_size _ rfl⟩
noncomputable def splitA (f g : FE) : FA := fun ρ => (f ρ).bind fun x => (g ρ).bind fun y => match x, y with
  | .str z, .str y => @ite _ (SplitOk z y) (Classical.propDecidable _) (some ((Txt.split z y).map D.str)) none
  | _, _ => none
theorem hasL_strs {K : PySem.W.Frag} {H : Hp} : ∀ (ts : List Str), HasL K H (ts.map D.str) (ts.map V.str)
  | [] => rfl
  | t :: ts => ⟨_, _, rfl, Has.str_iff.mpr rfl, hasL_strs ts⟩
theorem dn_split {apos cpos : Pos} (ho : DE X o f) (he : DE X e g)
    (hbase : attributeBase o "split" X.env (eval o X.env) = eval o X.env := by rfl)
    (hfew : ((backTo cpos (starEach [e] X.env)).all (fun x => !x.1) && (backToKw cpos (keywordEach [] X.env)).all (fun x => x.1.isSome)
      && decide (([e] : List Expr).length + ([] : List Keyword).length + (if ([] : List Keyword).isEmpty then 0 else 1) < 30)) = true := by rfl)
    (hline : (apos.endLine == cpos.line) = true := by rfl) (hst : starEach [e] X.env = (false, eval e X.env) :: starEach [] X.env := by rfl) (hplain : (backTo cpos (starEach [] X.env)).any (·.1) = false := by rfl) :
    DN X (.Call (.Attribute o "split" apos) [e] [] cpos) (splitA f g) :=
  pe_imp (pe_bm PySem.F.plainAttrs_str PySem.F.slot_str_split PySem.F.type_str_split mt_split ho (pa_cons he pa_nil hst) hbase hfew hline hst hplain) fun σ H Q ⟨H₀, Hf₀, ρ, Hf, ds, R, q, k⟩ => by
    obtain ⟨x, e1, q1⟩ := Option.bind_eq_some_iff.mp q
    obtain ⟨y, e2, e3⟩ := Option.bind_eq_some_iff.mp q1
    refine ⟨H₀, Hf₀, ρ, Hf, x, R, e1, fun v H1 Hf1 R1 s1 t1 h1 => ?_⟩
    split at e3
    · rename_i z y
      split at e3
      · rename_i hs
        cases e3
        cases Has.str_iff.mp h1
        refine ⟨rfl, H₀, Hf₀, ρ, Hf1, _, R1, e2, fun v' H2 Hf2 R2 s2 t2 h2 => ?_⟩
        cases Has.str_iff.mp h2
        refine ⟨z, y, rfl, rfl, hs, fun p hp => ?_⟩
        have hH : H p = none := (s1.trans s2).free hp
        exact k p _ _ Hf2 (R2.layN hp) ((s1.trans s2).trans (same_upd hp)) (t1.trans t2) (hasL_strs _) upd_same (R2.sf.free hp) hH
      · cases e3
    · cases e3
end
end FL
set_option Elab.async false
set_option linter.all false
set_option maxRecDepth 100000
set_option maxHeartbeats 4000000
namespace FL
open PySem PySem.Spec PyProof.Rows L2
section
variable {prog : Program} {w : World} {A : Around} {E : Value → Shared → Prop} {s : Shared} {l : Addr} {xs : Array (Int × Tok)}
end
section
variable {X : Cx}
end
end FL
set_option Elab.async false
set_option linter.all false
set_option maxRecDepth 100000
set_option maxHeartbeats 4000000
namespace FL
open PySem PySem.Spec PyProof.Rows L2
section
variable {X : Cx} {kk : Nat}
def rIndexL (K : PySem.W.Frag) : V → List V → Hp → VK → Prop := fun x vs H Q => ∃ (p : Addr) (ds : List D) (xs : List V) (dx : D) (y : V) (j : Nat) (d : D), x = .ref p ∧ vs = [y] ∧ SqL K H p xs ∧ HasL K H ds xs ∧ Has K H dx y ∧ depL ds ≤ 100 ∧
  ds[j]? = some d ∧ eqD d dx = true ∧ (∀ m d', m < j → ds[m]? = some d' → eqD d' dx = false) ∧ Q (.int (j : Int)) H
theorem mt_indexL (hr : Room kk X.A) : MtR X "list.index" (rIndexL X.K) := by
  intro pins s σ H x vs v us Q I rx rv h
  obtain ⟨p, ds, xs, dx, y, j, d, rfl, rfl, hq, hl, hx, hd, hj, he, hno, q⟩ := h
  cases rx
  obtain ⟨u, rfl, ru⟩ := vals1 rv
  obtain ⟨its, r, pl, hz⟩ := I.list hq
  obtain ⟨ob, n, e, hcl, hda, hdi⟩ := pl
  have hu : X.A.in1.units + depL ds < cLine := by show X.A.units + 1 + depL ds < cLine; have := hr.un; omega
  obtain ⟨cls, dict, data, slots⟩ := ob
  simp only at hcl hda hdi
  subst hcl hdi
  subst hda
  have at_ : ∀ m d', ds[m]? = some d' → ∃ u', its[m]? = some u' ∧ ansU X.K H dx u' = eqD d' dx := fun m d' hm => by
    obtain ⟨w1, e1, h1⟩ := hl.get hm
    obtain ⟨u1, e2, r1⟩ := r.get e1
    exact ⟨u1, e2, ansU_of I r1 h1⟩
  obtain ⟨uj, ej, aj⟩ := at_ j d hj
  have hlen : its.length = ds.length := by rw [← r.length, hl.length]
  have hjl : j < its.length := (List.getElem?_eq_some_iff.mp ej).1
  have hjs : j < sizeLine := Nat.lt_of_lt_of_le hjl (by rw [← r.length]; exact hz)
  have hsm : (j : Int) < 2 ^ 63 - 1 := by
    have : sizeLine ≤ 2 ^ 62 := by decide
    omega
  refine call_meets F.slot_list_index ⟨_, e, rfl⟩ F.entry_list_index (F.args_list_index_2 _ _) (SeqAt.list_indexAt p its.toArray n _ _ u (ansU X.K H dx) j (by simpa using hjl) hsm ?_ ?_) ⟨e, fun y hy => mem_ansU I hx ru hl r hu y (by simpa using hy), ?_⟩
  · have : its.toArray[j]'(by simpa using hjl) = uj := by
      have := (List.getElem?_eq_some_iff.mp ej).2
      simpa using this
    rw [this, aj]; exact he
  · intro m hm hmj
    have hm' : m < ds.length := by rw [← hlen]; simpa using hm
    obtain ⟨um, em, am⟩ := at_ m ds[m] (List.getElem?_eq_getElem hm')
    have : its.toArray[m]'hm = um := by
      have := (List.getElem?_eq_some_iff.mp em).2
      simpa using this
    rw [this, am]; exact hno m _ hmj (List.getElem?_eq_getElem hm')
  · exact ⟨.int _, H, I.tok _, ⟨_, rfl⟩, q⟩
end
theorem ptr_asg {X : Cx} {k i : Nat} {f : Addr} {fd : FuncData} {ps : List Str} {sp : Sp} {x y : Str} {p yp pos ep : Pos} {e : Expr} {es : List Expr} {t : TA} (F : FnOk X.prog X.w X.K X.mg X.base (CX1 X.prog X.w) k f fd ps sp) (hr : Room k X.A) (hg : Gl X x) (hm : X.mg x = some (.ref f))
    (hk : PySem.W.keepIn X.K (.ref f) = true) (hb : Binds X.K fd ps []) (ha : ∀ E, PA (X.wish E) (e :: es) t) (hN : X.N.Nodup) (hi : X.N[i]? = some y) (hx : Loc X.env.scope y)
    (hs : swapsWith (.Call (.Name x p) (e :: es) [] pos) (some (.Name y yp)) ep.line X.env = pure false := by rfl) (hf : X.fn y = true ∨ X.env.scope.names.lookup y = some .local := by first | exact .inl rfl | exact .inr rfl | assumption) (hdb : (x == ("__debug__" : Str)) = false := by decide)
    (he : starEach (e :: es) X.env = (false, eval e X.env) :: starEach es X.env := by rfl) (hpl : (backTo pos (starEach es X.env)).any (·.1) = false := by rfl) :
    PTr X [.Assign [.Name y yp] (.Call (.Name x p) (e :: es) [] pos) ep] (fun E D σ H => t σ H fun vs H1 => sp vs H1 (fun v H2 => D.nx (σ.set i (some v)) H2) E) := by
  intro pins s σ H D E I h
  refine wpAny_execs_cons (wpAny_Assign_Name ?_ hs)
  refine wpAny_Call_Name_kw (ld_glob I hg hm ?_ hdb)
  refine PySem.W.callWith_K (h₀ := X.base) I.ok.mod.kin hk (thn (ha (fun e s' => ∃ H0 s0, Inv X pins σ H0 s0 ∧ CX1 X.prog X.w X.stack H0 s0 E e s') pos pins s σ H _ (I.wish _) h) fun us s1 ⟨vs, H1, I1, r, q⟩ => ⟨I1.kIn, ?_⟩) he hpl
  have J := I1.unwish
  have hl : (us ++ ([] : List Value)).length = ps.length := by rw [List.append_nil, ← r.length]; exact F.len _ _ _ _ q
  refine wpAny_call (codeAny_mono (F.run X.A X.stack s1 H1 ⟨us, []⟩ (us ++ []) vs _ E hr J.env0 (hb s1 us J.kIn hl) (by rw [List.append_nil]; exact r) q) fun r s' hq => ?_)
  cases r with
  | error e => exact ⟨H1, s1, J, hq⟩
  | ok fl =>
    cases fl with
    | ret u =>
      obtain ⟨v, H2, I2, rv, q2⟩ := J.after hq
      exact store_ok I2 hN hi hx rv (fun s3 I3 => wpAny_execs_nil ⟨_, H2, I3, q2⟩) hf
    | next => exact False.elim hq
    | brk => exact False.elim hq
    | cont => exact False.elim hq
end FL
set_option Elab.async false
set_option linter.all false
set_option maxRecDepth 100000
set_option maxHeartbeats 4000000
namespace FL
open PySem PySem.Spec PyProof.Rows L2
theorem pass1 {P : Program} {w : World} {K : PySem.W.Frag} {mg : Str → Option Value} {base : Heap} {N : List Str} {qual : Str} {scope : Scope} {f : Addr} {cdv : Value} {A : Around} {outer : List Env} {s₀ : Shared} {H₀ : Hp} {E : XK} :
    Passes (CX1 P w) (cxOf (CX1 P w) P w K mg base N qual scope f cdv A outer s₀ H₀ E) E := by
  intro pins σ H s e s' I ⟨a, C, H1, ea, os, bare, un, hok, ⟨hn, ha0, B, t, fl, cvH, cv0⟩, hE⟩
  subst ea
  have hfr : (A.deeper (envOfC qual scope s₀.heap.objs.size f cdv)).frames = some (envOfC qual scope s₀.heap.objs.size f cdv :: outer) := I.ok.frames
  have hfrs : frs (envOfC qual scope s₀.heap.objs.size f cdv :: outer) = s₀.heap.objs.size :: frs outer := rfl
  have fr : ∀ b ∈ frs (envOfC qual scope s₀.heap.objs.size f cdv :: outer), H b = none ∧ ∀ o, s.heap.get? b = some o → ∀ vs, o.data ≠ .fields vs := fun b hb => by
    refine ⟨I.stkFree b hb, fun o q vs hd => ?_⟩
    obtain ⟨_, o', ho', nf⟩ := I.stack.mem hb
    rw [q] at ho'
    cases ho'
    exact nf vs hd
  have noex : ∀ b : Addr, b ∉ (cxOf (CX1 P w) P w K mg base N qual scope f cdv A outer s₀ H₀ E).ex := fun b z => absurd (show b ∈ ([] : List Addr) from z) (by simp)
  have old : ∀ b o, s₀.heap.get? b = some o → b ∉ frs outer → b ∉ frs (envOfC qual scope s₀.heap.objs.size f cdv :: outer) := fun b o q hb hm => by
    rw [hfrs] at hm
    rcases List.mem_cons.mp hm with z | z
    · subst z
      exact absurd (Heap.lt_size q) (Nat.lt_irrefl _)
    · exact hb z
  refine wpAny_leaves_onW hfr rfl fl fun h2 fl2 up => ?_
  have J : Inv (cxOf (CX1 P w) P w K mg base N qual scope f cdv A outer s₀ H₀ E) pins σ H1 { s' with heap := h2 } := I.call' (ch := []) os (un_fly un fr cv0 fl.1 fl2.1 up) (hok_fly hok cvH fl.1 fl2.1) bare (fun b z => absurd z (by simp))
  refine ⟨a, C, H1, rfl, J.os, J.bare, J.base, J.hok, ⟨hn, ?_, B, t, fl2, cvH, fun b o q hb => ?_⟩, hE⟩
  · cases z : s₀.heap.get? a with
    | none => rfl
    | some o =>
      obtain ⟨u, hu⟩ := I.base.there a o z (noex a)
      rw [ha0] at hu
      cases hu
  · obtain ⟨o1, e1⟩ := I.base.there b o q (noex b)
    exact cv0 b o1 e1 (old b o q hb)
def callX (g : List D → Option RX) (fa : FA) : FSX := fun ρ => (fa ρ).bind fun ds => (g ds).bind fun r => match r with
  | .v _ => some (.o (.nx ρ))
  | .ex n => some (.ex n)
theorem dx_callx {P : Program} {w : World} {K : PySem.W.Frag} {mg : Str → Option Value} {base : Heap} {N : List Str} {qual : Str} {scope : Scope} {f : Addr} {cdv : Value} {A : Around} {outer : List Env} {s₀ : Shared} {H₀ : Hp} {E : XK}
    {e : Expr} {es : List Expr} {fa : FA} {pos ep p : Pos} {k n : Nat} {g : List D → Option RX} {x : Str} (Fn : HasFnX P w K mg base k x n g) (hr : Room k (cxOf (CX1 P w) P w K mg base N qual scope f cdv A outer s₀ H₀ E).A) (hg : Gl (cxOf (CX1 P w) P w K mg base N qual scope f cdv A outer s₀ H₀ E) x)
    (ha : DA (cxOf (CX1 P w) P w K mg base N qual scope f cdv A outer s₀ H₀ E) (e :: es) fa) (hn : ∀ ρ ds, fa ρ = some ds → ds.length = n)
    (hs : swapsWith (.Call (.Name x p) (e :: es) [] pos) none ep.line (cxOf (CX1 P w) P w K mg base N qual scope f cdv A outer s₀ H₀ E).env = pure false := by rfl) (hdb : (x == ("__debug__" : Str)) = false := by decide)
    (he : starEach (e :: es) (cxOf (CX1 P w) P w K mg base N qual scope f cdv A outer s₀ H₀ E).env = (false, eval e (cxOf (CX1 P w) P w K mg base N qual scope f cdv A outer s₀ H₀ E).env) :: starEach es (cxOf (CX1 P w) P w K mg base N qual scope f cdv A outer s₀ H₀ E).env := by rfl)
    (hpl : (backTo pos (starEach es (cxOf (CX1 P w) P w K mg base N qual scope f cdv A outer s₀ H₀ E).env)).any (·.1) = false := by rfl) :
    DX (cxOf (CX1 P w) P w K mg base N qual scope f cdv A outer s₀ H₀ E) E (.Expr (.Call (.Name x p) (e :: es) [] pos) ep) (callX g fa) := by
  obtain ⟨f', fd, ps, h1, h2, h3, h4⟩ := Fn.ex
  refine ps_imp (ps_expr (pe_call h1 hr hg h2 h3 h4 .nil pass1 ha hdb he hpl) hs) fun D' σ H ⟨H₀', Hf₀, ρ, Hf, o, R, q, kk⟩ => ?_
  obtain ⟨ds, e1, e2⟩ := Option.bind_eq_some_iff.mp q
  obtain ⟨r, e3, e4⟩ := Option.bind_eq_some_iff.mp e2
  refine ⟨H₀', Hf₀, ρ, Hf, ds, R, e1, fun vs H1 Hf1 R1 s1 t1 hl => ?_⟩
  show spX mg K n g (vs ++ []) H1 _ E
  rw [List.append_nil]
  cases r with
  | v d => cases e4; exact spX_v R1.sf hl (hn ρ ds e1) e3 fun v H2 Hf2 gr hv => kk _ _ _ (R1.grows gr) (t1.trans gr.f)
  | ex z => cases e4; exact spX_ex R1.sf hl (hn ρ ds e1) e3 fun C H2 Hf2 m gr => kk C _ _ _ _ m (R1.grows gr) (t1.trans gr.f)
theorem Rep.dropAt {K : PySem.W.Frag} {H₀ Hf₀ H Hf : Hp} {σ : St} {ρ : Rho} (R : Rep K H₀ Hf₀ σ ρ H Hf) (i : Nat) (x : Option V) : Rep K H₀ Hf₀ (σ.set i x) (ρ.set i .no) H Hf := by
  have no : ∀ (j : Nat) (sl : Slot), (ρ.set i .no)[j]? = some sl → sl ≠ .no → i ≠ j ∧ ρ[j]? = some sl := fun j sl e hs => by
    by_cases c : i = j
    · subst c
      rw [List.getElem?_set] at e
      rw [if_pos rfl] at e
      split at e
      · cases e; exact absurd rfl hs
      · cases e
    · rw [List.getElem?_set_ne c] at e
      exact ⟨c, e⟩
  have nown : ∀ sl : Slot, sl.own = true → sl ≠ .no := fun sl o z => by subst z; cases o
  refine ⟨R.s0, R.sf, R.nf, R.f0, by simp [R.len], fun j d e => ?_, fun j sl e o => ?_, fun j j' sl sl' a e o e' o' q q' => ?_⟩
  · obtain ⟨c, e⟩ := no j _ e (by simp)
    rw [List.getElem?_set_ne c]
    exact R.fr j d e
  · obtain ⟨c, e⟩ := no j _ e (nown sl o)
    rw [List.getElem?_set_ne c]
    exact R.ow j sl e o
  · obtain ⟨c, e⟩ := no j _ e (nown sl o)
    obtain ⟨c', e'⟩ := no j' _ e' (nown sl' o')
    rw [List.getElem?_set_ne c] at q
    rw [List.getElem?_set_ne c'] at q'
    exact R.inj j j' sl sl' a e o e' o' q q'
theorem Rep.hide {K : PySem.W.Frag} {H₀ Hf₀ H Hf : Hp} {σ : St} {ρ : Rho} (R : Rep K H₀ Hf₀ σ ρ H Hf) (i : Nat) : Rep K H₀ Hf₀ σ (ρ.set i .no) H Hf := by
  have no : ∀ (j : Nat) (sl : Slot), (ρ.set i .no)[j]? = some sl → sl ≠ .no → ρ[j]? = some sl := fun j sl e hs => by
    by_cases c : i = j
    · subst c
      rw [List.getElem?_set] at e
      rw [if_pos rfl] at e
      split at e
      · cases e; exact absurd rfl hs
      · cases e
    · rw [List.getElem?_set_ne c] at e
      exact e
  have nown : ∀ sl : Slot, sl.own = true → sl ≠ .no := fun sl o z => by subst z; cases o
  exact ⟨R.s0, R.sf, R.nf, R.f0, by simp [R.len], fun j d e => R.fr j d (no j _ e (by simp)), fun j sl e o => R.ow j sl (no j _ e (nown sl o)) o, fun j j' sl sl' a e o e' o' q q' => R.inj j j' sl sl' a (no j _ e (nown sl o)) o (no j' _ e' (nown sl' o')) o' q q'⟩
end FL
set_option Elab.async false
set_option linter.all false
set_option maxRecDepth 100000
set_option maxHeartbeats 4000000
namespace FL
open PySem PySem.Spec PyProof.Rows L2
def eP (r : List Int) : List (Int × Int) := r.map fun x => (x, 0)
def iD (r : List Int) : D := .tup (r.map D.int)
def sortT (rs : List (List Int)) : List (List Int) := (sortR (rs.map eP)).map fun r => r.map (·.1)
theorem fst_eP (r : List Int) : (eP r).map (·.1) = r := by
  unfold eP
  rw [List.map_map]
  exact (List.map_congr_left fun _ _ => rfl).trans (List.map_id r)
theorem sortT_perm (rs : List (List Int)) : (sortT rs).Perm rs := by
  unfold sortT
  have h := (sortR_perm (rs.map eP)).map fun r => r.map (·.1)
  rw [List.map_map] at h
  have e : List.map ((fun r : List (Int × Int) => r.map (·.1)) ∘ eP) rs = rs := (List.map_congr_left fun r _ => fst_eP r).trans (List.map_id rs)
  rw [e] at h
  exact h
section
variable {X : Cx} {pins : List (Addr × Obj)} {σ : St} {H : Hp} {s : Shared} {A : Around}
theorem ltP0 (x y : Int) : ltP (x, 0) (y, 0) = decide (x < y) := by unfold ltP; simp
theorem lex_ints {Q : Bool → Shared → Prop} : ∀ {xs ys : List Int} {vs ws : List V} {us us' : List Value} {i : Nat} {fin : Bool}, HasL X.K H (xs.map D.int) vs → HasL X.K H (ys.map D.int) ws → Vals vs us → Vals ws us' →
    fin = decide (us.length < us'.length) → Q (ltR (eP xs) (eP ys)) s → PySem.W.KatLex X.prog X.w A true fin Q (us.zip us') i s
  | [], [], vs, ws, us, us', i, fin, h, h', r, r', hf, hq => by
    rw [List.map_nil, HasL.nil_iff] at h h'
    subst h h'
    cases r; cases r'
    subst hf
    exact PySem.W.kat_nil hq
  | [], y :: ys, vs, ws, us, us', i, fin, h, h', r, r', hf, hq => by
    rw [List.map_nil, HasL.nil_iff] at h
    subst h
    cases r
    obtain ⟨w0, r0, rfl, e0, l⟩ := HasL.cons_iff.mp h'
    cases r'
    subst hf
    exact PySem.W.kat_nil hq
  | x :: xs, [], vs, ws, us, us', i, fin, h, h', r, r', hf, hq => by
    rw [List.map_nil, HasL.nil_iff] at h'
    subst h'
    cases r'
    obtain ⟨w0, r0, rfl, e0, l⟩ := HasL.cons_iff.mp h
    cases r
    subst hf
    exact PySem.W.kat_nil hq
  | x :: xs, y :: ys, vs, ws, us, us', i, fin, h, h', r, r', hf, hq => by
    obtain ⟨v0, vr, rfl, e0, l⟩ := HasL.cons_iff.mp h
    obtain ⟨w0, wr, rfl, f0, l'⟩ := HasL.cons_iff.mp h'
    rw [Has.int_iff] at e0 f0
    subst e0 f0
    cases r with
    | cons r0 r =>
      cases r' with
      | cons r0' r' =>
        obtain ⟨t, rfl⟩ := r0
        obtain ⟨t', rfl⟩ := r0'
        have hq : Q (if (x, (0 : Int)) = (y, 0) then ltR (eP xs) (eP ys) else ltP (x, 0) (y, 0)) s := hq
        refine PySem.W.kat_cons (wpAny_eqBool_int ?_)
        by_cases c : x = y
        · rw [show (x == y) = true by simpa using c]
          refine PySem.W.kat_yes (lex_ints l l' r r' ?_ ?_)
          · rw [hf]; simp
          · rw [if_pos (by rw [c])] at hq; exact hq
        · rw [show (x == y) = false by simpa using c]
          rw [if_neg (fun e => c (Prod.mk.inj e).1), ltP0] at hq
          refine PySem.W.kat_no ?_
          show wpAny _ _ (oneLt' (true && i == 0) _ _) _ _ _
          cases i with
          | zero => exact PySem.W.kat_lt_int hq
          | succ i =>
            show wpAny _ _ (oneLt' false _ _) _ _ _
            exact PySem.W.kat_one _ _ (lt_int hq)
theorem ints_tups (I : Inv X pins σ H s) : ∀ {rs : List (List Int)} {ys : List V} {us : List Value}, (∀ r ∈ rs, r ≠ []) → HasL X.K H (rs.map iD) ys → Vals ys us →
    ∃ fs, PySem.W.KatTups s.heap us fs ∧ fs.length = rs.length ∧ ∀ v ∈ fs, ∃ i t, v = .int i t
  | [], ys, us, _, h, r => by
    rw [List.map_nil, HasL.nil_iff] at h
    subst h
    cases r
    exact ⟨[], .nil, rfl, fun v hv => nomatch hv⟩
  | x :: rs, ys, us, hne, h, r => by
    obtain ⟨v, vr, rfl, e0, l⟩ := HasL.cons_iff.mp h
    cases r with
    | cons r0 r =>
      obtain ⟨fs, t, hl, ht⟩ := ints_tups I (fun r hr => hne r (List.mem_cons_of_mem _ hr)) l r
      obtain ⟨a, xs, rfl, q, lx⟩ := Has.tup_iff.mp e0
      cases r0
      obtain ⟨its, rv, ⟨o, ho, hc, n, hd⟩, _⟩ := I.tuple q
      cases x with
      | nil => exact absurd rfl (hne [] List.mem_cons_self)
      | cons x0 xr =>
        obtain ⟨w, wr, rfl, f0, lw⟩ := HasL.cons_iff.mp lx
        rw [Has.int_iff] at f0
        subst f0
        cases rv with
        | cons k0 rv =>
          obtain ⟨t0, rfl⟩ := k0
          refine ⟨.int x0 t0 :: fs, .cons ho hc hd (by simp) t, by simp [hl], fun v hv => ?_⟩
          rcases List.mem_cons.mp hv with rfl | hv
          · exact ⟨_, _, rfl⟩
          · exact ht v hv
theorem ints_at {K : PySem.W.Frag} {rs : List (List Int)} {ys : List V} {us : List Value} (h : HasL K H (rs.map iD) ys) (r : Vals ys us) {i : Nat} (hi : i < us.length) :
    Has K H (iD (rs.getD i [])) (ys.getD i .non) ∧ RelV (ys.getD i .non) (us.getD i .none) := by
  have hl := r.length
  have hl' := h.length
  rw [List.length_map] at hl'
  have e : (rs.map iD)[i]? = some (iD (rs.getD i [])) := by
    rw [List.getElem?_map, List.getD_eq_getElem?_getD, List.getElem?_eq_getElem (by omega)]
    rfl
  obtain ⟨v, hv, hh⟩ := h.get e
  have ev : ys.getD i .non = v := by rw [List.getD_eq_getElem?_getD, hv]; rfl
  refine ⟨by rw [ev]; exact hh, ?_⟩
  obtain ⟨u, hu, hr⟩ := r.get hv
  rw [ev, List.getD_eq_getElem?_getD, hu]
  exact hr
theorem ints_maps {K : PySem.W.Frag} {rs : List (List Int)} {ys : List V} {us : List Value} (h : HasL K H (rs.map iD) ys) (r : Vals ys us) : ∀ (l : List Nat), (∀ i ∈ l, i < us.length) →
    HasL K H ((l.map fun i => rs.getD i []).map iD) (l.map fun i => ys.getD i .non) ∧ Vals (l.map fun i => ys.getD i .non) (l.map fun i => us.getD i .none)
  | [], _ => ⟨.nil, .nil⟩
  | i :: l, hl => by
    have a := ints_at h r (hl i List.mem_cons_self)
    have b := ints_maps h r l fun j hj => hl j (List.mem_cons_of_mem _ hj)
    exact ⟨.cons a.1 b.1, .cons a.2 b.2⟩
theorem eP_getD (rs : List (List Int)) (i : Nat) : (rs.map eP).getD i [] = eP (rs.getD i []) := by
  rw [List.getD_eq_getElem?_getD, List.getD_eq_getElem?_getD, List.getElem?_map]
  cases rs[i]? <;> rfl
theorem up_sortT {rs : List (List Int)} {p : Array Nat} (b : Bs rs.length p) (u : UpTo (O := rowOrd) (fun i => (rs.map eP).getD i []) p rs.length) : sortT rs = p.toList.map fun i => rs.getD i [] := by
  have := up_sorted (rs := rs.map eP) (p := p) (by rw [List.length_map]; exact b) (by rw [List.length_map]; exact u)
  unfold sortT
  rw [this, List.map_map]
  refine List.map_congr_left fun i _ => ?_
  show ((rs.map eP).getD i []).map (·.1) = _
  rw [eP_getD, fst_eP]
theorem call_sortedT : CallR X (.builtin "sorted") (fun xs H Q => ∃ (p : Addr) (rs : List (List Int)) (ys : List V), xs = [.ref p] ∧ SqL X.K H p ys ∧ HasL X.K H (rs.map iD) ys ∧ rs.length < 64 ∧ (∀ r ∈ rs, r ≠ []) ∧
    ∀ l (L : List Nat), H l = none → (∀ i ∈ L, i < ys.length) → sortT rs = L.map (fun i => rs.getD i []) → Q (.ref l) (upd H l (.lst (L.map fun i => ys.getD i .non)))) := by
  intro pins s σ H xs us Q I r h
  obtain ⟨p, rs, ys, rfl, hq, hh, hn, hne, q⟩ := h
  obtain ⟨u, rfl, rx⟩ := vals1 r
  cases rx
  obtain ⟨its, r', pl, hz⟩ := I.list hq
  have hlen := r'.length
  have hlen' := hh.length
  rw [List.length_map] at hlen'
  refine sorted_T (O := rowOrd) (key := fun i => (rs.map eP).getD i []) (κ := tuples' true) (vs := its) pl.isList (by omega) (fun h2 h' hk => ?_) fun p' a1 a2 => ?_
  · have I' : Inv X pins σ H { s with heap := h' } := I.kept (t' := s.toks) hk
    refine ⟨fun Q E hq => ?_, fun i j Q hi hj hq => ?_⟩
    · obtain ⟨fs, t, hl, ht⟩ := ints_tups I' hne hh r'
      refine PySem.W.kat_kind (T := .type "int") t (by omega) (fun v hv => ?_) (by rfl) hq
      obtain ⟨i, t, rfl⟩ := ht v hv
      exact PySem.W.Looks.now
    · obtain ⟨x1, x2⟩ := ints_at hh r' hi
      obtain ⟨y1, y2⟩ := ints_at hh r' hj
      obtain ⟨a, xs, e, qa, la⟩ := Has.tup_iff.mp x1
      obtain ⟨b, zs, e', qb, lb⟩ := Has.tup_iff.mp y1
      rw [e] at x2
      rw [e'] at y2
      have k1 : its.getD i .none = .ref a := x2
      have k2 : its.getD j .none = .ref b := y2
      obtain ⟨ia, ra, ⟨o, ho, hc, n, hd⟩, _⟩ := I'.tuple qa
      obtain ⟨ib, rb, ⟨o', ho', hc', n', hd'⟩, _⟩ := I'.tuple qb
      rw [k1, k2]
      have hq : Q (ltR ((rs.map eP).getD i []) ((rs.map eP).getD j [])) { s with heap := h' } := hq
      rw [eP_getD, eP_getD] at hq
      refine PySem.W.kat_lt ho hd ho' hd' ?_
      exact lex_ints la lb ra rb (by simp) hq
  · have hm : ∀ i ∈ p'.toList, i < its.length := fun i hi => by
      have : i ∈ List.range its.length := by simpa using (Array.perm_iff_toList_perm.mp a1.perm).mem_iff.mp hi
      simpa using this
    have b := ints_maps hh r' p'.toList hm
    have el : its.length = rs.length := by omega
    rw [el] at a1 a2
    have hf : H (s.heap.objs.size + 1) = none := I.hok.fresh (Nat.le_succ _)
    have q' := q _ p'.toList hf (by rw [hlen]; exact hm) (up_sortT a1 a2)
    obtain ⟨e, he⟩ := sortedAll_at s.heap its (List.toArray (p'.toList.map fun i => its.getD i .none))
    exact ⟨.ref (s.heap.objs.size + 1), _, I.laid (t' := s.toks) (fun b o x => sortedAll_old x) (Nat.le_succ _) (show ObjOk X.prog X.w _ (sortedAll s.heap its _) _ (.lst _) from ⟨by rw [List.length_map, Array.length_toList, a1.size]; omega, _, e, b.2, he⟩), rfl, q'⟩
theorem ints_has {K : PySem.W.Frag} {rs : List (List Int)} {ys : List V} (h : HasL K H (rs.map iD) ys) : ∀ (l : List Nat), (∀ i ∈ l, i < ys.length) → HasL K H ((l.map fun i => rs.getD i []).map iD) (l.map fun i => ys.getD i .non)
  | [], _ => .nil
  | i :: l, hl => by
    have hi := hl i List.mem_cons_self
    have hl' := h.length
    rw [List.length_map] at hl'
    have e : (rs.map iD)[i]? = some (iD (rs.getD i [])) := by
      rw [List.getElem?_map, List.getD_eq_getElem?_getD, List.getElem?_eq_getElem (by omega)]
      rfl
    obtain ⟨v, hv, hh⟩ := h.get e
    have ev : ys.getD i .non = v := by rw [List.getD_eq_getElem?_getD, hv]; rfl
    exact .cons (show Has K H (iD (rs.getD i [])) (ys.getD i .non) by rw [ev]; exact hh) (ints_has h l fun j hj => hl j (List.mem_cons_of_mem _ hj))
end
def intRows : List D → Option (List (List Int))
  | [] => some []
  | .tup ds :: rest => (intsOf ds).bind fun r => (intRows rest).bind fun rs => some (r :: rs)
  | _ :: _ => none
theorem intsOf_some : ∀ {ds : List D} {r : List Int}, intsOf ds = some r → ds = r.map D.int
  | [], r, h => by cases h; rfl
  | d :: ds, r, h => by
    cases d with
    | int b =>
      obtain ⟨r', e, rfl⟩ := Option.map_eq_some_iff.mp (show (intsOf ds).map (b :: ·) = some r from h)
      rw [intsOf_some e]
      rfl
    | _ => cases h
theorem intRows_some : ∀ {ds : List D} {rs : List (List Int)}, intRows ds = some rs → ds = rs.map iD
  | [], r, h => by cases h; rfl
  | d :: ds, r, h => by
    cases d with
    | tup xs =>
      obtain ⟨x, h1, h⟩ := Option.bind_eq_some_iff.mp (show (intsOf xs).bind (fun r => (intRows ds).bind fun rs => some (r :: rs)) = some r from h)
      obtain ⟨r', h2, h⟩ := Option.bind_eq_some_iff.mp h
      cases h
      rw [intsOf_some h1, intRows_some h2]
      rfl
    | _ => cases h
theorem intRows_map : ∀ rs : List (List Int), intRows (rs.map iD) = some rs
  | [] => rfl
  | r :: rs => by
    show (intsOf (r.map D.int)).bind (fun r => (intRows (rs.map iD)).bind fun rs => some (r :: rs)) = _
    rw [intsOf_map r, intRows_map rs]
    rfl
def sortTN (fa : FA) : FA := fun ρ => (fa ρ).bind fun l => match l with
  | [.lst ds] => (intRows ds).bind fun rs => if rs.length < 64 ∧ ∀ r ∈ rs, r ≠ [] then some ((sortT rs).map iD) else none
  | _ => none
section
variable {X : Cx} {e : Expr} {pos : Pos}
theorem dn_sortedT {es : List Expr} {fa : FA} {p : Pos} (hg : Gl X "sorted") (hm : X.mg "sorted" = none) (ha : DAR X (e :: es) fa)
    (he : starEach (e :: es) X.env = (false, eval e X.env) :: starEach es X.env := by rfl) (hpl : (backTo pos (starEach es X.env)).any (·.1) = false := by rfl) : DN X (.Call (.Name "sorted" p) (e :: es) [] pos) (sortTN fa) :=
  pe_imp (pe_callB (id := "sorted") call_sortedT hg hm boot_sorted ha (by decide) (by decide) he hpl) fun σ H Q ⟨H₀, Hf₀, ρ, Hf, d, R, q, k⟩ => by
    obtain ⟨l, e1, e2⟩ := bindA_some q
    refine ⟨H₀, Hf₀, ρ, Hf, l, R, e1, fun vs H1 Hf1 R1 s1 t1 h1 => ?_⟩
    split at e2
    · rename_i ds
      obtain ⟨rs, e3, e4⟩ := Option.bind_eq_some_iff.mp e2
      split at e4
      · rename_i hn
        cases e4
        obtain ⟨v, rfl, hv⟩ := HasRL.one h1
        obtain ⟨a, ys, rfl, q, l⟩ := hv.lst R1
        rw [intRows_some e3] at l
        refine ⟨a, rs, ys, rfl, q, l.mono R1.sf, hn.1, hn.2, fun p L hp hL eL => ?_⟩
        rw [eL] at k
        exact k _ _ _ _ (R1.layN hp) (s1.trans (same_upd hp)) t1 (ints_has l L hL) upd_same (R1.sf.free hp) (s1.free hp)
      · cases e4
    · cases e2
end
end FL
set_option Elab.async false
set_option linter.all false
set_option maxRecDepth 100000
set_option maxHeartbeats 4000000
namespace FL
open PySem PySem.Spec PyProof.Rows L2
end FL
set_option Elab.async false
set_option linter.all false
set_option maxRecDepth 100000
set_option maxHeartbeats 4000000
namespace TX
open PySem FL L2 PySem.NumText
abbrev cp (z : Str) : List Nat := z.cps.toList
theorem cp_app (a b : Str) : cp (a ++ b) = cp a ++ cp b := by
  show (a.cps ++ b.cps).toList = _
  simp
theorem cp_len (z : Str) : z.length = (cp z).length := by simp [Str.length]
theorem cp_ext {x y : Str} (h : cp x = cp y) : x = y := str_ext h
theorem cp_beq (x y : Str) : (x == y) = decide (cp x = cp y) := by
  by_cases h : cp x = cp y
  · rw [cp_ext h]; simp
  · have : x ≠ y := fun e => h (by rw [e])
    simp [h, this]
theorem cut_to {α : Type} (xs : List α) (k : Nat) (h : k ≤ xs.length) : cutL xs none (some (k : Int)) = xs.take k := by
  unfold cutL
  rw [HT.sIx_nat, HT.sIx_none, Nat.min_eq_left h]
  simp
theorem cut_from {α : Type} (xs : List α) (k : Nat) (h : k ≤ xs.length) : cutL xs (some (k : Int)) none = xs.drop k := by
  unfold cutL
  rw [HT.sIx_nat, HT.sIx_none, Nat.min_eq_left h]
  rw [List.take_of_length_le (by simp)]
theorem in_one (c : Nat) (z : Str) : inS ⟨#[c]⟩ z = decide (c ∈ cp z) := StrLaws.found_one z c
def dg (m : Nat) : List Nat := (Nat.toDigits 10 m).map Char.toNat
theorem dg_lt {m : Nat} (h : m < 10) : dg m = [48 + m] := by
  unfold dg
  rw [Nat.toDigits_of_lt_base h]
  have : ∀ d : Nat, d < 10 → (Nat.digitChar d).toNat = 48 + d := by decide
  simp [this m h]
theorem dg_ge {m : Nat} (h : ¬ m < 10) : dg m = dg (m / 10) ++ [48 + m % 10] := by
  have hm : m % 10 < 10 := Nat.mod_lt m (by decide)
  have t : Nat.toDigits 10 (m / 10) ++ Nat.toDigits 10 (m % 10) = Nat.toDigits 10 (10 * (m / 10) + m % 10) := Nat.toDigits_append_toDigits (by decide) (by omega) hm
  rw [Nat.div_add_mod] at t
  have e := dg_lt hm
  unfold dg at e ⊢
  rw [← t, List.map_append, e]
theorem dg_ne (m : Nat) : dg m ≠ [] := by
  by_cases h : m < 10
  · rw [dg_lt h]; simp
  · rw [dg_ge h]; simp
theorem dg_all (m : Nat) : AllDigits (dg m) := by
  induction m using Nat.strongRecOn with
  | _ m ih =>
    by_cases h : m < 10
    · rw [dg_lt h]
      intro c hc
      have : c = 48 + m := by simpa using hc
      omega
    · rw [dg_ge h]
      intro c hc
      rcases List.mem_append.mp hc with h1 | h1
      · exact ih (m / 10) (by omega) c h1
      · have : c = 48 + m % 10 := by simpa using h1
        omega
theorem dg_val (m : Nat) : digitsVal (dg m) = m := PySem.W.KIN.val_back m
def si (i : Int) : Str := Str.ofString (toString i)
theorem si_nn {i : Int} (h : 0 ≤ i) : cp (si i) = dg i.natAbs := by
  obtain ⟨m, rfl⟩ := Int.eq_ofNat_of_zero_le h
  exact PySem.W.KIN.signs_num m
theorem int_dg (z : Str) (m : Nat) (h : cp z = dg m) (hl : (dg m).length ≤ 640) : intX [.str z] = some (.int (m : Int)) := by
  have h2 : z.length ≤ 640 := by rw [cp_len, h]; exact hl
  show (if z.length ≤ 640 then (PySem.intText? z).map D.int else none) = _
  rw [if_pos h2, intText_digits (by show AllDigits (cp z); rw [h]; exact dg_all m) (by show cp z ≠ []; rw [h]; exact dg_ne m) (by omega)]
  show some (D.int ((digitsVal (cp z) : Nat) : Int)) = _
  rw [h, dg_val]
end TX
namespace GH
open FL L2
abbrev T3 := Int × Int × Int
def tD (t : T3) : D := .tup [.int t.1, .int t.2.1, .int t.2.2]
end GH
namespace Pk14
open PySem PySem.Spec PyProof.Rows L2 FL
def top (i : Nat) : Stmt := PySem.Challenge.pw_mirrorhouse_k14_whole_any_house_text.main.body.getD i (.Pass ⟨0, 0, 0, 0⟩)
abbrev s_check_house : Stmt := top 14
abbrev s_is_turn_text : Stmt := top 15
abbrev s_read_turn : Stmt := top 16
abbrev s_read_house : Stmt := top 17
abbrev s_l_at : Stmt := top 19
abbrev s_l_mix : Stmt := top 20
abbrev s_l_whole : Stmt := top 21
abbrev s_l_odd : Stmt := top 22
abbrev s_l_part : Stmt := top 23
abbrev s_l_written : Stmt := top 24
abbrev s_l_words : Stmt := top 25
abbrev s_l_due : Stmt := top 26
abbrev s_law : Stmt := top 28
structure Txt (K : PySem.W.Frag) (mg : Str → Option Value) : Prop where
  base : True
  ValueError_b : mg "ValueError" = none
  bool_b : mg "bool" = none
  int_b : mg "int" = none
  isinstance_b : mg "isinstance" = none
  len_b : mg "len" = none
  list_b : mg "list" = none
  max_b : mg "max" = none
  min_b : mg "min" = none
  range_b : mg "range" = none
  sorted_b : mg "sorted" = none
  str_b : mg "str" = none
  tuple_b : mg "tuple" = none
  LETTERS_c : ∃ t, mg "LETTERS" = some (Value.str "abcdef" t)
  MIRROR_FIGURES_c : ∃ t, mg "MIRROR_FIGURES" = some (Value.str "123456" t)
  NEVER_c : ∃ t, mg "NEVER" = some (Value.int 0 t)
  NEVER_SIGN_c : ∃ t, mg "NEVER_SIGN" = some (Value.str "*" t)
  TOLD_TURNS_c : GTup K mg "TOLD_TURNS" [(.int 0), (.int 3), (.int 4), (.int 5), (.int 6)]
  TURN_FIGURES_c : ∃ t, mg "TURN_FIGURES" = some (Value.str "3456" t)
noncomputable def F_check_house : FS := (seqF (asgF 1 (bind2 ixD (vF 0) (cF (.int 0)))) (seqF (ifS (notT (blF (chainF leD leD (cF (.int 1)) (vF 1) (appF lenD (consA (cF (.str "abcdef")) nilA))))) neverF nxF) (seqF (dnewF 2) (forF (seqX (bind2 ixD (vF 0) (cF (.int 1)))) (tupG 3 (consG (nameG 3) (consG (nameG 4) (consG (nameG 5) nilG)))) (seqF (ifS (notT (blF (chain3F leD ltD ltD (cF (.int 0)) (vF 3) (vF 4) (vF 1)))) neverF nxF) (seqF (ifS (blF (bind2 (inD true) (vF 5) (cF (.tup [(.int 0), (.int 3), (.int 4), (.int 5), (.int 6)])))) neverF nxF) (seqF (ifS (dinT 2 (consA (vF 3) (consA (vF 4) nilA))) neverF nxF) (dputF 2 (consA (vF 3) (consA (vF 4) nilA)) (cF (.bl true))))))))))
noncomputable def g_check_house : List D → Option D := denF 6 F_check_house
theorem sc_check_house : FnScope ["house", "mirrors", "seen", "i", "j", "m"] ["house"] (defScope s_check_house) := ⟨rfl, rfl, rfl, by decide +kernel, rfl, by decide +kernel, by decide +kernel⟩
theorem ok_check_house {P : Program} {w : World} {K : PySem.W.Frag} {mg : Str → Option Value} {base : Heap} {f : Addr} {fd : FuncData} (Fn : Fun K "check_house" "check_house" s_check_house f fd) (T : Txt K mg)  :
    FnOk P w K mg base CX0 1 f fd ["house"] (spF K 1 g_check_house) :=
  fn_den (k := 0) (m := 6) (F := F_check_house) rfl rfl Fn sc_check_house fun cdv A outer s H E hr => (dss_cons (ds_asg 1 sc_check_house.nd (d_ix (DE.dr (dv 0)) (DE.dr d_int))) (dss_cons (ds_if (dt_not (dt_chain op_le op_le opD_le opD_le (DE.dr d_int) (DE.dr (dv 1)) (DE.dr (d_callB call_lenG fnR_len rfl T.len_b (by rfl) (dar_cons (DE.dr (d_gstr rfl T.LETTERS_c)) dar_nil))))) (dss_one ds_never) dss_nil) (dss_cons (ds_dnew 2 sc_check_house.nd) (dss_one (ds_for PassesOwn.never rfl (di_seqX (d_ix (DE.dr (dv 0)) (DE.dr d_int))) (dg_tup rfl (dgs_cons (dg_name 3 sc_check_house.nd) (dgs_cons (dg_name 4 sc_check_house.nd) (dgs_cons (dg_name 5 sc_check_house.nd) dgs_nil)))) (dss_cons (ds_if (dt_not (dt_chain3 op_le op_lt op_lt opD_le opD_lt opD_lt (DE.dr d_int) (DE.dr (dv 3)) (DE.dr (dv 4)) (DE.dr (dv 1)))) (dss_one ds_never) dss_nil) (dss_cons (ds_if (dt_notin hr (DE.dr (dv 5)) (DE.dr (d_gtup rfl T.TOLD_TURNS_c))) (dss_one ds_never) dss_nil) (dss_cons (ds_if (dt_din 2 hr (da_cons (dv 3) (da_cons (dv 4) da_nil))) (dss_one ds_never) dss_nil) (dss_one (ds_dput 2 hr d_bl (da_cons (dv 3) (da_cons (dv 4) da_nil))))))))))))
noncomputable def G_check_house : FSX := (sqX (liftX (asgF 1 (bind2 ixD (vF 0) (cF (.int 0))))) (sqX (ifX (notT (blF (chainF leD leD (cF (.int 1)) (vF 1) (appF lenD (consA (cF (.str "abcdef")) nilA))))) (exX "NoHouse") nxX) (sqX (liftX (dnewF 2)) (forX (seqX (bind2 ixD (vF 0) (cF (.int 1)))) (tupG 3 (consG (nameG 3) (consG (nameG 4) (consG (nameG 5) nilG)))) (sqX (ifX (notT (blF (chain3F leD ltD ltD (cF (.int 0)) (vF 3) (vF 4) (vF 1)))) (exX "NoHouse") nxX) (sqX (ifX (blF (bind2 (inD true) (vF 5) (cF (.tup [(.int 0), (.int 3), (.int 4), (.int 5), (.int 6)])))) (exX "NoHouse") nxX) (sqX (ifX (dinT 2 (consA (vF 3) (consA (vF 4) nilA))) (exX "NoHouse") nxX) (liftX (dputF 2 (consA (vF 3) (consA (vF 4) nilA)) (cF (.bl true)))))))))))
noncomputable def gx_check_house : List D → Option RX := denX 6 G_check_house
theorem okx_check_house {P : Program} {w : World} {K : PySem.W.Frag} {mg : Str → Option Value} {base : Heap} {f : Addr} {fd : FuncData} (Fn : Fun K "check_house" "check_house" s_check_house f fd) (T : Txt K mg) {C_NoHouse : Addr} (e_NoHouse : ExT K mg "NoHouse" C_NoHouse)   :
    FnOk P w K mg base (CX1 P w) 1 f fd ["house"] (spX mg K 1 gx_check_house) :=
  fn_denX (k := 0) (m := 6) (G := G_check_house) rfl rfl Fn sc_check_house fun cdv A outer s H E hr => (dxs_cons (dx_ds (ds_asg 1 sc_check_house.nd (d_ix (DE.dr (dv 0)) (DE.dr d_int)))) (dxs_cons (dx_if (dt_not (dt_chain op_le op_le opD_le opD_le (DE.dr d_int) (DE.dr (dv 1)) (DE.dr (d_callB call_lenG fnR_len rfl T.len_b (by rfl) (dar_cons (DE.dr (d_gstr rfl T.LETTERS_c)) dar_nil))))) (dxs_one (dx_raise e_NoHouse rfl)) dxs_nil) (dxs_cons (dx_ds (ds_dnew 2 sc_check_house.nd)) (dxs_one (dx_for PassesOwn.leaving rfl (di_seqX (d_ix (DE.dr (dv 0)) (DE.dr d_int))) (dg_tup rfl (dgs_cons (dg_name 3 sc_check_house.nd) (dgs_cons (dg_name 4 sc_check_house.nd) (dgs_cons (dg_name 5 sc_check_house.nd) dgs_nil)))) (dxs_cons (dx_if (dt_not (dt_chain3 op_le op_lt op_lt opD_le opD_lt opD_lt (DE.dr d_int) (DE.dr (dv 3)) (DE.dr (dv 4)) (DE.dr (dv 1)))) (dxs_one (dx_raise e_NoHouse rfl)) dxs_nil) (dxs_cons (dx_if (dt_notin hr (DE.dr (dv 5)) (DE.dr (d_gtup rfl T.TOLD_TURNS_c))) (dxs_one (dx_raise e_NoHouse rfl)) dxs_nil) (dxs_cons (dx_if (dt_din 2 hr (da_cons (dv 3) (da_cons (dv 4) da_nil))) (dxs_one (dx_raise e_NoHouse rfl)) dxs_nil) (dxs_one (dx_ds (ds_dput 2 hr d_bl (da_cons (dv 3) (da_cons (dv 4) da_nil)))))))))))))
noncomputable def F_is_turn_text : FS := (seqF (ifS (blF (bind2 neF (appF lenD (consA (vF 0) nilA)) (cF (.int 3)))) (retF (cF (.bl false))) nxF) (retF (andV (bind2 (inD false) (bind2 ixD (vF 0) (cF (.int 0))) (cF (.str "abcdef"))) (andV (bind2 (inD false) (bind2 ixD (vF 0) (cF (.int 1))) (cF (.str "abcdef"))) (bind2 (inD false) (bind2 ixD (vF 0) (cF (.int 2))) (bind2 addX (cF (.str "3456")) (cF (.str "*"))))))))
noncomputable def g_is_turn_text : List D → Option D := denF 1 F_is_turn_text
theorem sc_is_turn_text : FnScope ["word"] ["word"] (defScope s_is_turn_text) := ⟨rfl, rfl, rfl, by decide +kernel, rfl, by decide +kernel, by decide +kernel⟩
theorem ok_is_turn_text {P : Program} {w : World} {K : PySem.W.Frag} {mg : Str → Option Value} {base : Heap} {f : Addr} {fd : FuncData} (Fn : Fun K "is_turn_text" "is_turn_text" s_is_turn_text f fd) (T : Txt K mg)  :
    FnOk P w K mg base CX0 1 f fd ["word"] (spF K 1 g_is_turn_text) :=
  fn_den (k := 0) (m := 1) (F := F_is_turn_text) rfl rfl Fn sc_is_turn_text fun cdv A outer s H E hr => (dss_cons (ds_if (dt_ne hr (DE.dr (d_callB call_lenG fnR_len rfl T.len_b (by rfl) (dar_cons (DE.dr (dv 0)) dar_nil))) (DE.dr d_int)) (dss_one (ds_ret d_bl)) dss_nil) (dss_one (ds_ret (d_and (d_in hr (DE.dr (d_ix (DE.dr (dv 0)) (DE.dr d_int))) (DE.dr (d_gstr rfl T.LETTERS_c))) (d_and (d_in hr (DE.dr (d_ix (DE.dr (dv 0)) (DE.dr d_int))) (DE.dr (d_gstr rfl T.LETTERS_c))) (d_one (d_in hr (DE.dr (d_ix (DE.dr (dv 0)) (DE.dr d_int))) (DE.dr (d_addX (DE.dr (d_gstr rfl T.TURN_FIGURES_c)) (DE.dr (d_gstr rfl T.NEVER_SIGN_c)))))))))))
noncomputable def F_read_turn : FS := (seqF (asgF 1 (ifF (blF (bind2 eqF (bind2 ixD (vF 0) (cF (.int 2))) (cF (.str "*")))) (cF (.int 0)) (appF intX (consA (bind2 ixD (vF 0) (cF (.int 2))) nilA)))) (retF (tupF (consA (bind2 idxD (cF (.str "abcdef")) (bind2 ixD (vF 0) (cF (.int 0)))) (consA (bind2 idxD (cF (.str "abcdef")) (bind2 ixD (vF 0) (cF (.int 1)))) (consA (vF 1) nilA))))))
noncomputable def g_read_turn : List D → Option D := denF 2 F_read_turn
theorem sc_read_turn : FnScope ["word", "m"] ["word"] (defScope s_read_turn) := ⟨rfl, rfl, rfl, by decide +kernel, rfl, by decide +kernel, by decide +kernel⟩
theorem ok_read_turn {P : Program} {w : World} {K : PySem.W.Frag} {mg : Str → Option Value} {base : Heap} {f : Addr} {fd : FuncData} (Fn : Fun K "read_turn" "read_turn" s_read_turn f fd) (T : Txt K mg)  :
    FnOk P w K mg base CX0 1 f fd ["word"] (spF K 1 g_read_turn) :=
  fn_den (k := 0) (m := 2) (F := F_read_turn) rfl rfl Fn sc_read_turn fun cdv A outer s H E hr => (dss_cons (ds_asg 1 sc_read_turn.nd (d_ifExp (dt_eq hr (DE.dr (d_ix (DE.dr (dv 0)) (DE.dr d_int))) (DE.dr (d_gstr rfl T.NEVER_SIGN_c))) (d_gint rfl T.NEVER_c) (d_callTy call_intX fnR_intX rfl T.int_b (by rfl) (dar_cons (DE.dr (d_ix (DE.dr (dv 0)) (DE.dr d_int))) dar_nil)))) (dss_one (ds_ret (d_tup (da_cons (d_index (d_gstr rfl T.LETTERS_c) (d_ix (DE.dr (dv 0)) (DE.dr d_int))) (da_cons (d_index (d_gstr rfl T.LETTERS_c) (d_ix (DE.dr (dv 0)) (DE.dr d_int))) (da_cons (dv 1) da_nil)))))))
noncomputable def F_read_house : FS := (seqF (asgF 1 (mapLst (splitA (vF 0) (cF (.str " "))))) (seqF (ifS (orT (blF (bind2 neF (appF lenD (consA (bind2 ixD (vF 1) (cF (.int 0))) nilA)) (cF (.int 1)))) (blF (bind2 (inD true) (bind2 ixD (vF 1) (cF (.int 0))) (cF (.str "123456"))))) neverF nxF) (seqF (forF (seqX (sliceX (vF 1) (exP (cF (.int 1))) noP)) (nameG 2) (ifS (notT (blF (appF g_is_turn_text (consA (vF 2) nilA)))) neverF nxF)) (seqF (asgF 3 (tupF (consA (appF intX (consA (bind2 ixD (vF 1) (cF (.int 0))) nilA)) (consA (mapLst (sortTN (consA (mapLst (compF 1 [] (seqX (sliceX (vF 1) (exP (cF (.int 1))) noP)) (nameG 0) ttF (appF g_read_turn (consA (vF 0) nilA)))) nilA))) nilA)))) (seqF (dropF (appF g_check_house (consA (vF 3) nilA))) (retF (vF 3)))))))
noncomputable def g_read_house : List D → Option D := denF 4 F_read_house
theorem sc_read_house : FnScope ["text", "words", "word", "house"] ["text"] (defScope s_read_house) := ⟨rfl, rfl, rfl, by decide +kernel, rfl, by decide +kernel, by decide +kernel⟩
theorem ok_read_house {P : Program} {w : World} {K : PySem.W.Frag} {mg : Str → Option Value} {base : Heap} {f : Addr} {fd : FuncData} (Fn : Fun K "read_house" "read_house" s_read_house f fd) (T : Txt K mg) (h_check_house : HasFn P w K mg base 1 "check_house" 1 g_check_house) (h_is_turn_text : HasFn P w K mg base 1 "is_turn_text" 1 g_is_turn_text) (h_read_turn : HasFn P w K mg base 1 "read_turn" 1 g_read_turn) :
    FnOk P w K mg base CX0 2 f fd ["text"] (spF K 1 g_read_house) :=
  fn_den (k := 1) (m := 4) (F := F_read_house) rfl rfl Fn sc_read_house fun cdv A outer s H E hr => (dss_cons (ds_asg 1 sc_read_house.nd (DN.de (dn_split (dv 0) d_str))) (dss_cons (ds_if (DW.dt (dw_or (dt_ne hr (DE.dr (d_callB call_lenG fnR_len rfl T.len_b (by rfl) (dar_cons (DE.dr (d_ix (DE.dr (dv 1)) (DE.dr d_int))) dar_nil))) (DE.dr d_int)) (dw_or1 (dt_notin hr (DE.dr (d_ix (DE.dr (dv 1)) (DE.dr d_int))) (DE.dr (d_gstr rfl T.MIRROR_FIGURES_c)))))) (dss_one ds_never) dss_nil) (dss_cons (ds_for PassesOwn.never rfl (di_seqX (d_sliceX (DE.dr (dv 1)) (dp_ex (DE.dr d_int)) dp_no)) (dg_name 2 sc_read_house.nd) (dss_one (ds_if (dt_not (dt_val (DE.dr (d_callH h_is_turn_text (hr.mono (by decide)) rfl (da_cons (dv 2) da_nil) (lenAS lenA0))))) (dss_one ds_never) dss_nil))) (dss_cons (ds_asg 3 sc_read_house.nd (d_tup (da_cons (d_callTy call_intX fnR_intX rfl T.int_b (by rfl) (dar_cons (DE.dr (d_ix (DE.dr (dv 1)) (DE.dr d_int))) dar_nil)) (da_cons (DN.de (dn_sortedT rfl T.sorted_b (dar_cons (DE.dr (DN.de (dn_comp (own := ["word"]) (frees := []) (caps := []) rfl (.of (by kernel_rfl)) rfl kn_name (di_seqX (d_sliceX (DE.dr (dv 1)) (dp_ex (DE.dr d_int)) dp_no)) (fun cl C s H fp => ⟨(dg_name 0 (show List.Nodup (["word"] : List Str) from by decide +kernel)), dq_nil, (d_callH h_read_turn (hr.mono (by decide)) rfl (da_cons (dv 0) da_nil) (lenAS lenA0))⟩)))) dar_nil))) da_nil)))) (dss_cons (ds_expr (d_callH h_check_house (hr.mono (by decide)) rfl (da_cons (dv 3) da_nil) (lenAS lenA0))) (dss_one (ds_ret (dv 3))))))))
noncomputable def G_read_house : FSX := (sqX (liftX (asgF 1 (mapLst (splitA (vF 0) (cF (.str " ")))))) (sqX (ifX (orT (blF (bind2 neF (appF lenD (consA (bind2 ixD (vF 1) (cF (.int 0))) nilA)) (cF (.int 1)))) (blF (bind2 (inD true) (bind2 ixD (vF 1) (cF (.int 0))) (cF (.str "123456"))))) (exX "NoText") nxX) (sqX (forX (seqX (sliceX (vF 1) (exP (cF (.int 1))) noP)) (nameG 2) (ifX (notT (blF (appF g_is_turn_text (consA (vF 2) nilA)))) (exX "NoText") nxX)) (sqX (liftX (asgF 3 (tupF (consA (appF intX (consA (bind2 ixD (vF 1) (cF (.int 0))) nilA)) (consA (mapLst (sortTN (consA (mapLst (compF 1 [] (seqX (sliceX (vF 1) (exP (cF (.int 1))) noP)) (nameG 0) ttF (appF g_read_turn (consA (vF 0) nilA)))) nilA))) nilA))))) (sqX (callX gx_check_house (consA (vF 3) nilA)) (liftX (retF (vF 3))))))))
noncomputable def gx_read_house : List D → Option RX := denX 4 G_read_house
theorem okx_read_house {P : Program} {w : World} {K : PySem.W.Frag} {mg : Str → Option Value} {base : Heap} {f : Addr} {fd : FuncData} (Fn : Fun K "read_house" "read_house" s_read_house f fd) (T : Txt K mg) {C_NoText : Addr} (e_NoText : ExT K mg "NoText" C_NoText) (h_check_house : HasFn P w K mg base 1 "check_house" 1 g_check_house) (h_is_turn_text : HasFn P w K mg base 1 "is_turn_text" 1 g_is_turn_text) (h_read_turn : HasFn P w K mg base 1 "read_turn" 1 g_read_turn) (hx_check_house : HasFnX P w K mg base 1 "check_house" 1 gx_check_house) :
    FnOk P w K mg base (CX1 P w) 2 f fd ["text"] (spX mg K 1 gx_read_house) :=
  fn_denX (k := 1) (m := 4) (G := G_read_house) rfl rfl Fn sc_read_house fun cdv A outer s H E hr => (dxs_cons (dx_ds (ds_asg 1 sc_read_house.nd (DN.de (dn_split (dv 0) d_str)))) (dxs_cons (dx_if (DW.dt (dw_or (dt_ne hr (DE.dr (d_callB call_lenG fnR_len rfl T.len_b (by rfl) (dar_cons (DE.dr (d_ix (DE.dr (dv 1)) (DE.dr d_int))) dar_nil))) (DE.dr d_int)) (dw_or1 (dt_notin hr (DE.dr (d_ix (DE.dr (dv 1)) (DE.dr d_int))) (DE.dr (d_gstr rfl T.MIRROR_FIGURES_c)))))) (dxs_one (dx_raise e_NoText rfl)) dxs_nil) (dxs_cons (dx_for PassesOwn.leaving rfl (di_seqX (d_sliceX (DE.dr (dv 1)) (dp_ex (DE.dr d_int)) dp_no)) (dg_name 2 sc_read_house.nd) (dxs_one (dx_if (dt_not (dt_val (DE.dr (d_callH h_is_turn_text (hr.mono (by decide)) rfl (da_cons (dv 2) da_nil) (lenAS lenA0))))) (dxs_one (dx_raise e_NoText rfl)) dxs_nil))) (dxs_cons (dx_ds (ds_asg 3 sc_read_house.nd (d_tup (da_cons (d_callTy call_intX fnR_intX rfl T.int_b (by rfl) (dar_cons (DE.dr (d_ix (DE.dr (dv 1)) (DE.dr d_int))) dar_nil)) (da_cons (DN.de (dn_sortedT rfl T.sorted_b (dar_cons (DE.dr (DN.de (dn_comp (own := ["word"]) (frees := []) (caps := []) rfl (.of (by kernel_rfl)) rfl kn_name (di_seqX (d_sliceX (DE.dr (dv 1)) (dp_ex (DE.dr d_int)) dp_no)) (fun cl C s H fp => ⟨(dg_name 0 (show List.Nodup (["word"] : List Str) from by decide +kernel)), dq_nil, (d_callH h_read_turn (hr.mono (by decide)) rfl (da_cons (dv 0) da_nil) (lenAS lenA0))⟩)))) dar_nil))) da_nil))))) (dxs_cons (dx_callx hx_check_house (hr.mono (by decide)) rfl (da_cons (dv 3) da_nil) (lenAS lenA0)) (dxs_one (dx_ds (ds_ret (dv 3)))))))))
noncomputable def F_l_at : FS := (seqF (ifS (blF (bind2 ltD (vF 1) (appF lenD (consA (vF 0) nilA)))) (retF (bind2 ixD (vF 0) (vF 1))) nxF) (retF (bind2 addX (bind2 mulD (cF (.int 17)) (vF 1)) (cF (.int 9)))))
noncomputable def g_l_at : List D → Option D := denF 2 F_l_at
theorem sc_l_at : FnScope ["_law_script", "_law_k"] ["_law_script", "_law_k"] (defScope s_l_at) := ⟨rfl, rfl, rfl, by decide +kernel, rfl, by decide +kernel, by decide +kernel⟩
theorem ok_l_at {P : Program} {w : World} {K : PySem.W.Frag} {mg : Str → Option Value} {base : Heap} {f : Addr} {fd : FuncData} (Fn : Fun K "_law_at" "_law_at" s_l_at f fd) (T : Txt K mg)  :
    FnOk P w K mg base CX0 1 f fd ["_law_script", "_law_k"] (spF K 2 g_l_at) :=
  fn_den (k := 0) (m := 2) (F := F_l_at) rfl rfl Fn sc_l_at fun cdv A outer s H E hr => (dss_cons (ds_if (dt_lt (DE.dr (dv 1)) (DE.dr (d_callB call_lenG fnR_len rfl T.len_b (by rfl) (dar_cons (DE.dr (dv 0)) dar_nil)))) (dss_one (ds_ret (d_ix (DE.dr (dv 0)) (DE.dr (dv 1))))) dss_nil) (dss_one (ds_ret (d_addX (DE.dr (d_mul (DE.dr d_int) (DE.dr (dv 1)))) (DE.dr d_int)))))
noncomputable def F_l_mix : FS := (seqF (ifS (blF (bind2 geD (vF 0) (bind2 powD (cF (.int 10)) (cF (.int 12))))) (seqF (asgF 0 (bind2 subD (bind2 fdivD (vF 0) (bind2 powD (cF (.int 10)) (cF (.int 12)))) (cF (.int 1)))) (seqF (forF (rng1 (consA (bind2 modD (vF 1) (cF (.int 61))) nilA)) (nameG 2) (asgF 0 (bind2 fdivD (vF 0) (cF (.int 2147483648))))) (retF (bind2 modD (vF 0) (cF (.int 2147483648)))))) nxF) (seqF (asgF 3 (bind2 modD (bind2 mulD (bind2 addX (bind2 addX (bind2 modD (vF 0) (cF (.int 2147483629))) (vF 1)) (cF (.int 1))) (bind2 addX (bind2 mulD (bind2 mulD (cF (.int 8)) (vF 1)) (vF 1)) (cF (.int 48271)))) (cF (.int 2147483647)))) (seqF (asgF 3 (bind2 modD (bind2 mulD (vF 3) (vF 3)) (cF (.int 2147483587)))) (retF (bind2 modD (bind2 mulD (vF 3) (bind2 addX (vF 3) (cF (.int 2)))) (cF (.int 2147483579)))))))
noncomputable def g_l_mix : List D → Option D := denF 4 F_l_mix
theorem sc_l_mix : FnScope ["_law_number", "_law_place", "_law_turn", "_law_part_here"] ["_law_number", "_law_place"] (defScope s_l_mix) := ⟨rfl, rfl, rfl, by decide +kernel, rfl, by decide +kernel, by decide +kernel⟩
theorem ok_l_mix {P : Program} {w : World} {K : PySem.W.Frag} {mg : Str → Option Value} {base : Heap} {f : Addr} {fd : FuncData} (Fn : Fun K "_law_mix" "_law_mix" s_l_mix f fd) (T : Txt K mg)  :
    FnOk P w K mg base CX0 1 f fd ["_law_number", "_law_place"] (spF K 2 g_l_mix) :=
  fn_den (k := 0) (m := 4) (F := F_l_mix) rfl rfl Fn sc_l_mix fun cdv A outer s H E hr => (dss_cons (ds_if (dt_ge (DE.dr (dv 0)) (DE.dr (d_pow (DE.dr d_int) (DE.dr d_int)))) (dss_cons (ds_asg 0 sc_l_mix.nd (d_sub (DE.dr (d_fdiv (DE.dr (dv 0)) (DE.dr (d_pow (DE.dr d_int) (DE.dr d_int))))) (DE.dr d_int))) (dss_cons (ds_for PassesOwn.never rfl (di_range1 rfl T.range_b (dar_cons (DE.dr (d_mod (DE.dr (dv 1)) (DE.dr d_int))) dar_nil)) (dg_name 2 sc_l_mix.nd) (dss_one (ds_asg 0 sc_l_mix.nd (d_fdiv (DE.dr (dv 0)) (DE.dr d_int))))) (dss_one (ds_ret (d_mod (DE.dr (dv 0)) (DE.dr d_int)))))) dss_nil) (dss_cons (ds_asg 3 sc_l_mix.nd (d_mod (DE.dr (d_mul (DE.dr (d_addX (DE.dr (d_addX (DE.dr (d_mod (DE.dr (dv 0)) (DE.dr d_int))) (DE.dr (dv 1)))) (DE.dr d_int))) (DE.dr (d_addX (DE.dr (d_mul (DE.dr (d_mul (DE.dr d_int) (DE.dr (dv 1)))) (DE.dr (dv 1)))) (DE.dr d_int))))) (DE.dr d_int))) (dss_cons (ds_asg 3 sc_l_mix.nd (d_mod (DE.dr (d_mul (DE.dr (dv 3)) (DE.dr (dv 3)))) (DE.dr d_int))) (dss_one (ds_ret (d_mod (DE.dr (d_mul (DE.dr (dv 3)) (DE.dr (d_addX (DE.dr (dv 3)) (DE.dr d_int))))) (DE.dr d_int)))))))
noncomputable def F_l_whole : FS := (retF (andV (bind1 (isTy "int") (vF 0)) (notV (bind1 (isTy "bool") (vF 0)))))
noncomputable def g_l_whole : List D → Option D := denF 1 F_l_whole
theorem sc_l_whole : FnScope ["_law_found"] ["_law_found"] (defScope s_l_whole) := ⟨rfl, rfl, rfl, by decide +kernel, rfl, by decide +kernel, by decide +kernel⟩
theorem ok_l_whole {P : Program} {w : World} {K : PySem.W.Frag} {mg : Str → Option Value} {base : Heap} {f : Addr} {fd : FuncData} (Fn : Fun K "_law_whole" "_law_whole" s_l_whole f fd) (T : Txt K mg)  :
    FnOk P w K mg base CX0 1 f fd ["_law_found"] (spF K 1 g_l_whole) :=
  fn_den (k := 0) (m := 1) (F := F_l_whole) rfl rfl Fn sc_l_whole fun cdv A outer s H E hr => (dss_one (ds_ret (d_and (d_isTy ty_int (DE.dr (dv 0)) rfl T.isinstance_b rfl T.int_b) (d_one (d_not (d_isTy ty_bool (DE.dr (dv 0)) rfl T.isinstance_b rfl T.bool_b))))))
noncomputable def F_l_odd : FS := (seqF (asgF 2 (cF (.str " !\"#$&'()*+,-./0123456789:;<=>?@ABCDEFGHIJKLMNOPQRSTUVWXYZ[\\]^_`"))) (seqF (asgF 2 (bind2 addX (vF 2) (cF (.str "abcdefghijklmnopqrstuvwxyz{|}~")))) (seqF (asgF 3 (bind2 modD (vF 0) (cF (.int 6)))) (seqF (asgF 0 (bind2 fdivD (vF 0) (cF (.int 6)))) (seqF (ifS (blF (bind2 eqF (vF 3) (cF (.int 0)))) (retF (bind2 ixD (vF 2) (bind2 modD (vF 0) (cF (.int 94))))) nxF) (seqF (ifS (blF (bind2 eqF (vF 3) (cF (.int 1)))) (retF (cF (.str "  "))) nxF) (seqF (ifS (blF (bind2 eqF (vF 3) (cF (.int 2)))) (seqF (asgF 4 (bind2 addX (bind2 ixD (cF (.str "abcdefg")) (bind2 modD (vF 0) (cF (.int 7)))) (bind2 ixD (cF (.str "abcdefg")) (bind2 modD (bind2 fdivD (vF 0) (cF (.int 7))) (cF (.int 7)))))) (retF (bind2 addX (bind2 addX (cF (.str " ")) (vF 4)) (bind2 ixD (cF (.str "0123456789*")) (bind2 modD (bind2 fdivD (vF 0) (cF (.int 49))) (cF (.int 11))))))) nxF) (seqF (ifS (blF (bind2 eqF (vF 3) (cF (.int 3)))) (retF (cF (.str "ab3"))) nxF) (retF (vF 1))))))))))
noncomputable def g_l_odd : List D → Option D := denF 5 F_l_odd
theorem sc_l_odd : FnScope ["_law_number", "_law_last", "_law_some", "_law_way", "_law_mirrors"] ["_law_number", "_law_last"] (defScope s_l_odd) := ⟨rfl, rfl, rfl, by decide +kernel, rfl, by decide +kernel, by decide +kernel⟩
theorem ok_l_odd {P : Program} {w : World} {K : PySem.W.Frag} {mg : Str → Option Value} {base : Heap} {f : Addr} {fd : FuncData} (Fn : Fun K "_law_odd" "_law_odd" s_l_odd f fd) (T : Txt K mg)  :
    FnOk P w K mg base CX0 1 f fd ["_law_number", "_law_last"] (spF K 2 g_l_odd) :=
  fn_den (k := 0) (m := 5) (F := F_l_odd) rfl rfl Fn sc_l_odd fun cdv A outer s H E hr => (dss_cons (ds_asg 2 sc_l_odd.nd d_str) (dss_cons (ds_asg 2 sc_l_odd.nd (d_addX (DE.dr (dv 2)) (DE.dr d_str))) (dss_cons (ds_asg 3 sc_l_odd.nd (d_mod (DE.dr (dv 0)) (DE.dr d_int))) (dss_cons (ds_asg 0 sc_l_odd.nd (d_fdiv (DE.dr (dv 0)) (DE.dr d_int))) (dss_cons (ds_if (dt_eq hr (DE.dr (dv 3)) (DE.dr d_int)) (dss_one (ds_ret (d_ix (DE.dr (dv 2)) (DE.dr (d_mod (DE.dr (dv 0)) (DE.dr d_int)))))) dss_nil) (dss_cons (ds_if (dt_eq hr (DE.dr (dv 3)) (DE.dr d_int)) (dss_one (ds_ret d_str)) dss_nil) (dss_cons (ds_if (dt_eq hr (DE.dr (dv 3)) (DE.dr d_int)) (dss_cons (ds_asg 4 sc_l_odd.nd (d_addX (DE.dr (d_ix (DE.dr d_str) (DE.dr (d_mod (DE.dr (dv 0)) (DE.dr d_int))))) (DE.dr (d_ix (DE.dr d_str) (DE.dr (d_mod (DE.dr (d_fdiv (DE.dr (dv 0)) (DE.dr d_int))) (DE.dr d_int))))))) (dss_one (ds_ret (d_addX (DE.dr (d_addX (DE.dr d_str) (DE.dr (dv 4)))) (DE.dr (d_ix (DE.dr d_str) (DE.dr (d_mod (DE.dr (d_fdiv (DE.dr (dv 0)) (DE.dr d_int))) (DE.dr d_int))))))))) dss_nil) (dss_cons (ds_if (dt_eq hr (DE.dr (dv 3)) (DE.dr d_int)) (dss_one (ds_ret d_str)) dss_nil) (dss_one (ds_ret (dv 1)))))))))))
noncomputable def F_l_part : FS := (seqF (ifS (blF (bind2 eqF (bind2 modD (vF 0) (cF (.int 8))) (cF (.int 0)))) (retF (appF g_l_odd (consA (bind2 fdivD (vF 0) (cF (.int 8))) (consA (vF 2) nilA)))) nxF) (seqF (asgF 0 (bind2 fdivD (vF 0) (cF (.int 8)))) (seqF (asgF 3 (bind2 modD (vF 0) (vF 1))) (seqF (asgF 4 (bind2 modD (bind2 fdivD (vF 0) (cF (.int 8))) (vF 1))) (seqF (ifS (blF (bind2 eqF (vF 3) (vF 4))) (asgF 4 (bind2 modD (bind2 addX (vF 3) (cF (.int 1))) (cF (.int 6)))) nxF) (retF (bind2 addX (bind2 addX (bind2 addX (cF (.str " ")) (bind2 ixD (cF (.str "abcdef")) (appF minD (consA (vF 3) (consA (vF 4) nilA))))) (bind2 ixD (cF (.str "abcdef")) (appF maxD (consA (vF 3) (consA (vF 4) nilA))))) (bind2 ixD (cF (.str "3456*")) (bind2 modD (bind2 fdivD (vF 0) (cF (.int 64))) (cF (.int 5)))))))))))
noncomputable def g_l_part : List D → Option D := denF 5 F_l_part
theorem sc_l_part : FnScope ["_law_number", "_law_mirrors", "_law_last", "_law_i", "_law_j"] ["_law_number", "_law_mirrors", "_law_last"] (defScope s_l_part) := ⟨rfl, rfl, rfl, by decide +kernel, rfl, by decide +kernel, by decide +kernel⟩
theorem ok_l_part {P : Program} {w : World} {K : PySem.W.Frag} {mg : Str → Option Value} {base : Heap} {f : Addr} {fd : FuncData} (Fn : Fun K "_law_part" "_law_part" s_l_part f fd) (T : Txt K mg) (h_l_odd : HasFn P w K mg base 1 "_law_odd" 2 g_l_odd) :
    FnOk P w K mg base CX0 2 f fd ["_law_number", "_law_mirrors", "_law_last"] (spF K 3 g_l_part) :=
  fn_den (k := 1) (m := 5) (F := F_l_part) rfl rfl Fn sc_l_part fun cdv A outer s H E hr => (dss_cons (ds_if (dt_eq hr (DE.dr (d_mod (DE.dr (dv 0)) (DE.dr d_int))) (DE.dr d_int)) (dss_one (ds_ret (d_callH h_l_odd (hr.mono (by decide)) rfl (da_cons (d_fdiv (DE.dr (dv 0)) (DE.dr d_int)) (da_cons (dv 2) da_nil)) (lenAS (lenAS lenA0))))) dss_nil) (dss_cons (ds_asg 0 sc_l_part.nd (d_fdiv (DE.dr (dv 0)) (DE.dr d_int))) (dss_cons (ds_asg 3 sc_l_part.nd (d_mod (DE.dr (dv 0)) (DE.dr (dv 1)))) (dss_cons (ds_asg 4 sc_l_part.nd (d_mod (DE.dr (d_fdiv (DE.dr (dv 0)) (DE.dr d_int))) (DE.dr (dv 1)))) (dss_cons (ds_if (dt_eq hr (DE.dr (dv 3)) (DE.dr (dv 4))) (dss_one (ds_asg 4 sc_l_part.nd (d_mod (DE.dr (d_addX (DE.dr (dv 3)) (DE.dr d_int))) (DE.dr d_int)))) dss_nil) (dss_one (ds_ret (d_addX (DE.dr (d_addX (DE.dr (d_addX (DE.dr d_str) (DE.dr (d_ix (DE.dr d_str) (DE.dr (d_callB (call_min2 rfl) fnR_min rfl T.min_b (by rfl) (dar_cons (DE.dr (dv 3)) (dar_cons (DE.dr (dv 4)) dar_nil)))))))) (DE.dr (d_ix (DE.dr d_str) (DE.dr (d_callB (call_max2 rfl) fnR_max rfl T.max_b (by rfl) (dar_cons (DE.dr (dv 3)) (dar_cons (DE.dr (dv 4)) dar_nil)))))))) (DE.dr (d_ix (DE.dr d_str) (DE.dr (d_mod (DE.dr (d_fdiv (DE.dr (dv 0)) (DE.dr d_int))) (DE.dr d_int)))))))))))))
noncomputable def F_l_written : FS := (seqF (asgF 1 (appF g_l_mix (consA (appF g_l_at (consA (vF 0) (consA (cF (.int 0)) nilA))) (consA (cF (.int 1)) nilA)))) (seqF (asgF 2 (bind2 addX (cF (.int 1)) (bind2 modD (vF 1) (cF (.int 6))))) (seqF (asgF 3 (appF strD (consA (vF 2) nilA))) (seqF (ifS (blF (bind2 eqF (bind2 modD (bind2 fdivD (vF 1) (cF (.int 6))) (cF (.int 8))) (cF (.int 0)))) (asgF 3 (bind2 ixD (mapLst (lstF (consA (cF (.str "")) (consA (cF (.str "0")) (consA (cF (.str "7")) (consA (cF (.str "a")) (consA (cF (.str " 3")) (consA (cF (.str "33")) (consA (cF (.str "3 ")) (consA (cF (.str "03")) nilA)))))))))) (bind2 modD (bind2 fdivD (vF 1) (cF (.int 48))) (cF (.int 8))))) nxF) (seqF (asgF 4 (cF (.str ""))) (seqF (forF (seqX (sliceX (vF 0) (exP (cF (.int 1))) (exP (cF (.int 201))))) (nameG 5) (seqF (asgF 4 (appF g_l_part (consA (appF g_l_mix (consA (vF 5) (consA (cF (.int 2)) nilA))) (consA (vF 2) (consA (vF 4) nilA))))) (asgF 3 (bind2 addX (vF 3) (vF 4))))) (retF (vF 3))))))))
noncomputable def g_l_written : List D → Option D := denF 6 F_l_written
theorem sc_l_written : FnScope ["_law_script", "_law_number", "_law_mirrors", "_law_written_here", "_law_last", "_law_cell"] ["_law_script"] (defScope s_l_written) := ⟨rfl, rfl, rfl, by decide +kernel, rfl, by decide +kernel, by decide +kernel⟩
theorem ok_l_written {P : Program} {w : World} {K : PySem.W.Frag} {mg : Str → Option Value} {base : Heap} {f : Addr} {fd : FuncData} (Fn : Fun K "_law_written" "_law_written" s_l_written f fd) (T : Txt K mg) (h_l_at : HasFn P w K mg base 1 "_law_at" 2 g_l_at) (h_l_mix : HasFn P w K mg base 1 "_law_mix" 2 g_l_mix) (h_l_part : HasFn P w K mg base 2 "_law_part" 3 g_l_part) :
    FnOk P w K mg base CX0 3 f fd ["_law_script"] (spF K 1 g_l_written) :=
  fn_den (k := 2) (m := 6) (F := F_l_written) rfl rfl Fn sc_l_written fun cdv A outer s H E hr => (dss_cons (ds_asg 1 sc_l_written.nd (d_callH h_l_mix (hr.mono (by decide)) rfl (da_cons (d_callH h_l_at (hr.mono (by decide)) rfl (da_cons (dv 0) (da_cons d_int da_nil)) (lenAS (lenAS lenA0))) (da_cons d_int da_nil)) (lenAS (lenAS lenA0)))) (dss_cons (ds_asg 2 sc_l_written.nd (d_addX (DE.dr d_int) (DE.dr (d_mod (DE.dr (dv 1)) (DE.dr d_int))))) (dss_cons (ds_asg 3 sc_l_written.nd (d_callTy call_str_int fnR_str rfl T.str_b (by rfl) (dar_cons (DE.dr (dv 2)) dar_nil))) (dss_cons (ds_if (dt_eq hr (DE.dr (d_mod (DE.dr (d_fdiv (DE.dr (dv 1)) (DE.dr d_int))) (DE.dr d_int))) (DE.dr d_int)) (dss_one (ds_asg 3 sc_l_written.nd (by refine d_ix ?a ?b; (case b => exact (DE.dr (d_mod (DE.dr (d_fdiv (DE.dr (dv 1)) (DE.dr d_int))) (DE.dr d_int)))); (case a => refine DE.dr ?u; (case u => refine DN.de ?c; (case c => exact (by refine dn_lst ?l0; (case l0 => refine da_cons ?e0 ?l1; (case e0 => exact d_str); (case l1 => refine da_cons ?e1 ?l2; (case e1 => exact d_str); (case l2 => refine da_cons ?e2 ?l3; (case e2 => exact d_str); (case l3 => refine da_cons ?e3 ?l4; (case e3 => exact d_str); (case l4 => refine da_cons ?e4 ?l5; (case e4 => exact d_str); (case l5 => refine da_cons ?e5 ?l6; (case e5 => exact d_str); (case l6 => refine da_cons ?e6 ?l7; (case e6 => exact d_str); (case l7 => refine da_cons ?e7 ?l8; (case e7 => exact d_str); (case l8 => exact da_nil)))))))))))))))) dss_nil) (dss_cons (ds_asg 4 sc_l_written.nd d_str) (dss_cons (ds_for PassesOwn.never rfl (di_seqX (d_sliceX (DE.dr (dv 0)) (dp_ex (DE.dr d_int)) (dp_ex (DE.dr d_int)))) (dg_name 5 sc_l_written.nd) (dss_cons (ds_asg 4 sc_l_written.nd (d_callH h_l_part (hr.mono (by decide)) rfl (da_cons (d_callH h_l_mix (hr.mono (by decide)) rfl (da_cons (dv 5) (da_cons d_int da_nil)) (lenAS (lenAS lenA0))) (da_cons (dv 2) (da_cons (dv 4) da_nil))) (lenAS (lenAS (lenAS lenA0))))) (dss_one (ds_asg 3 sc_l_written.nd (d_addX (DE.dr (dv 3)) (DE.dr (dv 4))))))) (dss_one (ds_ret (dv 3)))))))))
noncomputable def F_l_words : FS := (seqF (asgN 1 (lstF (consA (cF (.str "")) nilA))) (seqF (forF (seqX (vF 0)) (nameG 2) (ifS (blF (bind2 eqF (vF 2) (cF (.str " ")))) (appendF 1 (cF (.str ""))) (setIF 1 (bind1 negD (cF (.int 1))) (bind2 addX (bind2 ixD (vR 1) (bind1 negD (cF (.int 1)))) (vF 2))))) (frzF 1 (retF (vF 1)))))
noncomputable def g_l_words : List D → Option D := denF 3 F_l_words
theorem sc_l_words : FnScope ["_law_written_here", "_law_found", "_law_mark"] ["_law_written_here"] (defScope s_l_words) := ⟨rfl, rfl, rfl, by decide +kernel, rfl, by decide +kernel, by decide +kernel⟩
theorem ok_l_words {P : Program} {w : World} {K : PySem.W.Frag} {mg : Str → Option Value} {base : Heap} {f : Addr} {fd : FuncData} (Fn : Fun K "_law_words" "_law_words" s_l_words f fd) (T : Txt K mg)  :
    FnOk P w K mg base CX0 1 f fd ["_law_written_here"] (spF K 1 g_l_words) :=
  fn_den (k := 0) (m := 3) (F := F_l_words) rfl rfl Fn sc_l_words fun cdv A outer s H E hr => (dss_cons (ds_asgN 1 sc_l_words.nd (dn_lst (da_cons d_str da_nil))) (dss_cons (ds_for PassesOwn.never rfl (di_seqX (dv 0)) (dg_name 2 sc_l_words.nd) (dss_one (ds_if (dt_eq hr (DE.dr (dv 2)) (DE.dr d_str)) (dss_one (ds_append 1 d_str)) (dss_one (ds_setI 1 (d_addX (DE.dr (d_ix (dvr 1) (DE.dr (d_neg (DE.dr d_int))))) (DE.dr (dv 2))) (d_neg (DE.dr d_int))))))) (dss_frz 1 (dss_one (ds_ret (dv 1))))))
noncomputable def F_l_due : FS := (seqF (asgF 1 (appF g_l_words (consA (vF 0) nilA))) (seqF (ifS (orT (blF (bind2 neF (appF lenD (consA (bind2 ixD (vF 1) (cF (.int 0))) nilA)) (cF (.int 1)))) (blF (bind2 (inD true) (bind2 ixD (vF 1) (cF (.int 0))) (cF (.str "123456"))))) (retF (tupF (consA (cF (.str "text")) (consA (cF .non) nilA)))) nxF) (seqF (asgN 2 (lstF nilA)) (seqF (forF (seqX (sliceX (vF 1) (exP (cF (.int 1))) noP)) (nameG 3) (seqF (ifS (orT (blF (bind2 neF (appF lenD (consA (vF 3) nilA)) (cF (.int 3)))) (orT (blF (bind2 ltD (bind2 (ttD Txt.find) (cF (.str "abcdef")) (bind2 ixD (vF 3) (cF (.int 0)))) (cF (.int 0)))) (orT (blF (bind2 ltD (bind2 (ttD Txt.find) (cF (.str "abcdef")) (bind2 ixD (vF 3) (cF (.int 1)))) (cF (.int 0)))) (blF (bind2 ltD (bind2 (ttD Txt.find) (cF (.str "3456*")) (bind2 ixD (vF 3) (cF (.int 2)))) (cF (.int 0))))))) (retF (tupF (consA (cF (.str "text")) (consA (cF .non) nilA)))) nxF) (appendF 2 (tupF (consA (bind2 (ttD Txt.find) (cF (.str "abcdef")) (bind2 ixD (vF 3) (cF (.int 0)))) (consA (bind2 (ttD Txt.find) (cF (.str "abcdef")) (bind2 ixD (vF 3) (cF (.int 1)))) (consA (bind2 ixD (mapLst (lstF (consA (cF (.int 3)) (consA (cF (.int 4)) (consA (cF (.int 5)) (consA (cF (.int 6)) (consA (cF (.int 0)) nilA))))))) (bind2 (ttD Txt.find) (cF (.str "3456*")) (bind2 ixD (vF 3) (cF (.int 2))))) nilA))))))) (frzF 2 (seqF (asgF 4 (mapLst (compF 1 [] (seqX (vF 2)) (nameG 0) ttF (sliceX (vF 0) noP (exP (cF (.int 2))))))) (seqF (forF (seqX (vF 4)) (tupG 2 (consG (nameG 5) (consG (nameG 6) nilG))) (ifS (orT (blF (bind2 geD (vF 6) (appF intX (consA (bind2 ixD (vF 1) (cF (.int 0))) nilA)))) (orT (blF (bind2 geD (vF 5) (vF 6))) (blF (bind2 gtD (bind2 countD (vF 4) (tupF (consA (vF 5) (consA (vF 6) nilA)))) (cF (.int 1)))))) (retF (tupF (consA (cF (.str "house")) (consA (cF .non) nilA)))) nxF)) (retF (tupF (consA (cF (.str "good")) (consA (tupF (consA (appF intX (consA (bind2 ixD (vF 1) (cF (.int 0))) nilA)) (consA (mapLst (sortTN (consA (vR 2) nilA))) nilA))) nilA)))))))))))
noncomputable def g_l_due : List D → Option D := denF 7 F_l_due
theorem sc_l_due : FnScope ["_law_written_here", "_law_words_here", "_law_turns", "_law_word", "_law_pairs", "_law_i", "_law_j"] ["_law_written_here"] (defScope s_l_due) := ⟨rfl, rfl, rfl, by decide +kernel, rfl, by decide +kernel, by decide +kernel⟩
theorem ok_l_due {P : Program} {w : World} {K : PySem.W.Frag} {mg : Str → Option Value} {base : Heap} {f : Addr} {fd : FuncData} (Fn : Fun K "_law_due" "_law_due" s_l_due f fd) (T : Txt K mg) (h_l_words : HasFn P w K mg base 1 "_law_words" 1 g_l_words) :
    FnOk P w K mg base CX0 2 f fd ["_law_written_here"] (spF K 1 g_l_due) :=
  fn_den (k := 1) (m := 7) (F := F_l_due) rfl rfl Fn sc_l_due fun cdv A outer s H E hr => (dss_cons (ds_asg 1 sc_l_due.nd (d_callH h_l_words (hr.mono (by decide)) rfl (da_cons (dv 0) da_nil) (lenAS lenA0))) (dss_cons (ds_if (DW.dt (dw_or (dt_ne hr (DE.dr (d_callB call_lenG fnR_len rfl T.len_b (by rfl) (dar_cons (DE.dr (d_ix (DE.dr (dv 1)) (DE.dr d_int))) dar_nil))) (DE.dr d_int)) (dw_or1 (dt_notin hr (DE.dr (d_ix (DE.dr (dv 1)) (DE.dr d_int))) (DE.dr d_str))))) (dss_one (ds_ret (d_tup (da_cons d_str (da_cons d_non da_nil))))) dss_nil) (dss_cons (ds_asgN 2 sc_l_due.nd (dn_lst da_nil)) (dss_cons (ds_for PassesOwn.never rfl (di_seqX (d_sliceX (DE.dr (dv 1)) (dp_ex (DE.dr d_int)) dp_no)) (dg_name 3 sc_l_due.nd) (dss_cons (ds_if (DW.dt (dw_or (dt_ne hr (DE.dr (d_callB call_lenG fnR_len rfl T.len_b (by rfl) (dar_cons (DE.dr (dv 3)) dar_nil))) (DE.dr d_int)) (dw_or (dt_lt (DE.dr (d_find d_str (d_ix (DE.dr (dv 3)) (DE.dr d_int)))) (DE.dr d_int)) (dw_or (dt_lt (DE.dr (d_find d_str (d_ix (DE.dr (dv 3)) (DE.dr d_int)))) (DE.dr d_int)) (dw_or1 (dt_lt (DE.dr (d_find d_str (d_ix (DE.dr (dv 3)) (DE.dr d_int)))) (DE.dr d_int))))))) (dss_one (ds_ret (d_tup (da_cons d_str (da_cons d_non da_nil))))) dss_nil) (dss_one (ds_append 2 (d_tup (da_cons (d_find d_str (d_ix (DE.dr (dv 3)) (DE.dr d_int))) (da_cons (d_find d_str (d_ix (DE.dr (dv 3)) (DE.dr d_int))) (da_cons (d_ix (DE.dr (DN.de (dn_lst (da_cons d_int (da_cons d_int (da_cons d_int (da_cons d_int (da_cons d_int da_nil)))))))) (DE.dr (d_find d_str (d_ix (DE.dr (dv 3)) (DE.dr d_int))))) da_nil)))))))) (dss_frz 2 (dss_cons (ds_asgComp 4 sc_l_due.nd (own := ["_law_turn"]) (frees := []) (caps := []) rfl (.of (by kernel_rfl)) rfl kn_name (di_seqX (dv 2)) (fun cl C s H fp => ⟨(dg_name 0 (show List.Nodup (["_law_turn"] : List Str) from by decide +kernel)), dq_nil, (d_sliceX (DE.dr (dv 0)) dp_no (dp_ex (DE.dr d_int)))⟩)) (dss_cons (ds_for PassesOwn.never rfl (di_seqX (dv 4)) (dg_tup rfl (dgs_cons (dg_name 5 sc_l_due.nd) (dgs_cons (dg_name 6 sc_l_due.nd) dgs_nil))) (dss_one (ds_if (DW.dt (dw_or (dt_ge (DE.dr (dv 6)) (DE.dr (d_callTy call_intX fnR_intX rfl T.int_b (by rfl) (dar_cons (DE.dr (d_ix (DE.dr (dv 1)) (DE.dr d_int))) dar_nil)))) (dw_or (dt_ge (DE.dr (dv 5)) (DE.dr (dv 6))) (dw_or1 (dt_gt (DE.dr (d_count hr (dv 4) (d_tup (da_cons (dv 5) (da_cons (dv 6) da_nil))))) (DE.dr d_int)))))) (dss_one (ds_ret (d_tup (da_cons d_str (da_cons d_non da_nil))))) dss_nil))) (dss_one (ds_ret (d_tup (da_cons d_str (da_cons (d_tup (da_cons (d_callTy call_intX fnR_intX rfl T.int_b (by rfl) (dar_cons (DE.dr (d_ix (DE.dr (dv 1)) (DE.dr d_int))) dar_nil)) (da_cons (DN.de (dn_sortedT rfl T.sorted_b (dar_cons (dvr 2) dar_nil))) da_nil))) da_nil))))))))))))
abbrev s_l_class : Stmt := top 27
def RefC (K : PySem.W.Frag) (CT CN CE CW CM C : Addr) (k : Nat) : Prop := ExcCls K C ∧ PySem.W.kitOne K (.ref C) (.ref CT) = some (k == 0) ∧ PySem.W.kitOne K (.ref C) (.ref CN) = some (k == 1) ∧ PySem.W.kitAny K (.ref C) [.ref CE, .ref CW, .ref CM] = some false ∧ PySem.W.kitOne K (.ref C) (.type "ValueError") = some true
def wordK (k : Nat) : Str := if k = 0 then "text" else "house"
def spCl (K : PySem.W.Frag) (CT CN CE CW CM : Addr) : Sp := fun vs H Q _ => (vs = [.non] ∧ Q (.str "good") H) ∨ ∃ (a C : Addr) (k : Nat), vs = [.ref a] ∧ H a = some (exO a C) ∧ k < 2 ∧ RefC K CT CN CE CW CM C k ∧ ∀ H', Same H H' → Q (.str (wordK k)) H'
theorem sc_l_class : FnScope ["_law_kept", "_law_some"] ["_law_kept"] (defScope s_l_class) := ⟨rfl, rfl, rfl, by decide +kernel, rfl, by decide +kernel, by decide +kernel⟩
theorem ok_l_class {P : Program} {w : World} {K : PySem.W.Frag} {mg : Str → Option Value} {base : Heap} {f : Addr} {fd : FuncData} {CT CN CE CW CM : Addr} (Fn : Fun K "_law_class" "_law_class" s_l_class f fd) (bi : mg "isinstance" = none) (bv : mg "ValueError" = none)
    (mT : mg "NoText" = some (.ref CT)) (mN : mg "NoHouse" = some (.ref CN)) (mE : mg "Endless" = some (.ref CE)) (mW : mg "NoWord" = some (.ref CW)) (mM : mg "TooMany" = some (.ref CM)) :
    FnOk P w K mg base CX0 1 f fd ["_law_kept"] (spCl K CT CN CE CW CM) := by
  refine Fn.ok (k := 0) sc_l_class (fun vs H Q E h => ?_) (fun cdv A outer s H vs Q E hr h => ?_)
  · rcases h with ⟨rfl, _⟩ | ⟨_, _, _, rfl, _⟩ <;> rfl
  refine ⟨_, pss_cons (ps_if (pt_cmp (pc_isN (pv 0))) (pss_one (ps_ret pe_str)) pss_nil)
    (pss_cons (ps_set (i := 1) sc_l_class.nd (by rfl) (.inl rfl) (pe_lst (pa_cons (pe_callB call_isi (by rfl) bi (by rfl) (pa_cons (pv 0) (pa_cons (pe_glob (v := .ref CT) (by rfl) mT (by rfl)) pa_nil))) (pa_cons (pe_callB call_isi (by rfl) bi (by rfl) (pa_cons (pv 0) (pa_cons (pe_glob (v := .ref CN) (by rfl) mN (by rfl)) pa_nil)))
      (pa_cons (pe_callB call_isi (by rfl) bi (by rfl) (pa_cons (pv 0) (pa_cons (pe_tup (pa_cons (pe_glob (v := .ref CE) (by rfl) mE (by rfl)) (pa_cons (pe_glob (v := .ref CW) (by rfl) mW (by rfl)) (pa_cons (pe_glob (v := .ref CM) (by rfl) mM (by rfl)) pa_nil)))) pa_nil))) pa_nil)))))
    (pss_cons (ps_if (pw_or (pt_cmp (pc_neI (pe_bm PySem.F.plainAttrs_list PySem.F.slot_list_count type_list_count' (mt_count hr) (pv 1) (pa_cons pe_bl pa_nil)) pe_int)) (pw_or1 (pt_not (pt_val (pe_callB call_isi (by rfl) bi (by rfl) (pa_cons (pv 0) (pa_cons (pe_bltn (v := .ty "ValueError") (by rfl) bv (by rfl) (by rfl)) pa_nil))))))).pt (pss_one (ps_ret pe_str)) pss_nil)
    (pss_one (ps_ret (pe_ix ix_list (pe_lst (pa_cons pe_str (pa_cons pe_str (pa_cons pe_str pa_nil)))) (pe_bm PySem.F.plainAttrs_list PySem.F.slot_list_index PySem.F.type_list_index (mt_indexL hr) (pv 1) (pa_cons pe_bl pa_nil)) (by intro _ _; rfl)))))), ?_⟩
  rcases h with ⟨rfl, q⟩ | ⟨a, C, k, rfl, ha, hk, ⟨ec, k1, k2, k3, k4⟩, q⟩
  · exact ⟨.non, rfl, true, rfl, iteT q⟩
  refine ⟨.ref a, rfl, false, rfl, iteF ?_⟩
  refine ⟨.ref a, rfl, a, C, (k == 0), ec, ha, ?_, .inr (.inl ⟨CT, rfl, k1⟩)⟩
  refine ⟨.ref a, rfl, a, C, (k == 1), ec, ha, ?_, .inr (.inl ⟨CN, rfl, k2⟩)⟩
  refine ⟨.ref a, rfl, (show 3 ≤ sizeLine from by decide), fun p hp => ?_⟩
  have ha1 : upd H p (.tup [.ref CE, .ref CW, .ref CM]) a = some (exO a C) := by rw [upd_ne (ne_of_none ha hp)]; exact ha
  refine ⟨a, C, false, ec, ha1, ?_, .inr (.inr ⟨p, [CE, CW, CM], rfl, upd_same, k3⟩)⟩
  refine ⟨(show 3 ≤ sizeLine from by decide), fun l hl => ?_⟩
  have hk' : k = 0 ∨ k = 1 := by omega
  rcases hk' with rfl | rfl
  · have sq : SqL K (upd (upd H p (.tup [.ref CE, .ref CW, .ref CM])) l (.lst [.bl true, .bl false, .bl false])) l [.bl true, .bl false, .bl false] := SqL.of upd_same
    have hL : ∀ H' : Hp, HasL K H' [.bl true, .bl false, .bl false] [.bl true, .bl false, .bl false] := fun _ => ⟨_, _, rfl, Has.bl_iff.mpr rfl, _, _, rfl, Has.bl_iff.mpr rfl, _, _, rfl, Has.bl_iff.mpr rfl, rfl⟩
    have ha2 : upd (upd H p (.tup [.ref CE, .ref CW, .ref CM])) l (.lst [.bl true, .bl false, .bl false]) a = some (exO a C) := by rw [upd_ne (ne_of_none ha1 hl)]; exact ha1
    refine ⟨.ref l, rfl, .inl ⟨rfl, _, sq⟩, l, [.bl true, .bl false, .bl false], [.bl true, .bl false, .bl false], .bl true, .bl true, rfl, rfl, sq, hL _, Has.bl_iff.mpr rfl, by simp [depL, dep], 1, 1, rfl, rfl, false, rfl, iteF ?_⟩
    refine ⟨.ref a, rfl, a, C, true, ec, ha2, ⟨true, rfl, iteF ?_⟩, .inl ⟨"ValueError", rfl, k4⟩⟩
    refine ⟨(show 3 ≤ sizeLine from by decide), fun l2 hl2 => ?_⟩
    have nl : l ≠ l2 := ne_of_none upd_same hl2
    have sq2 : SqL K (upd (upd (upd H p (.tup [.ref CE, .ref CW, .ref CM])) l (.lst [.bl true, .bl false, .bl false])) l2 (.lst [.str "text", .str "house", .str "other"])) l [.bl true, .bl false, .bl false] := SqL.of (by rw [upd_ne nl]; exact upd_same)
    refine ⟨.ref l, rfl, .inl ⟨rfl, _, sq2⟩, l, [.bl true, .bl false, .bl false], [.bl true, .bl false, .bl false], .bl true, .bl true, 0, .bl true, rfl, rfl, sq2, hL _, Has.bl_iff.mpr rfl, by simp [depL, dep], rfl, rfl, fun m d' hm _ => absurd hm (Nat.not_lt_zero _), ?_⟩
    refine ⟨l2, [.str "text", .str "house", .str "other"], 0, .str (wordK 0), rfl, rfl, SqL.of upd_same, rfl, ?_⟩
    exact q _ (((same_upd hp).trans (same_upd hl)).trans (same_upd hl2))
  · have sq : SqL K (upd (upd H p (.tup [.ref CE, .ref CW, .ref CM])) l (.lst [.bl false, .bl true, .bl false])) l [.bl false, .bl true, .bl false] := SqL.of upd_same
    have hL : ∀ H' : Hp, HasL K H' [.bl false, .bl true, .bl false] [.bl false, .bl true, .bl false] := fun _ => ⟨_, _, rfl, Has.bl_iff.mpr rfl, _, _, rfl, Has.bl_iff.mpr rfl, _, _, rfl, Has.bl_iff.mpr rfl, rfl⟩
    have ha2 : upd (upd H p (.tup [.ref CE, .ref CW, .ref CM])) l (.lst [.bl false, .bl true, .bl false]) a = some (exO a C) := by rw [upd_ne (ne_of_none ha1 hl)]; exact ha1
    refine ⟨.ref l, rfl, .inl ⟨rfl, _, sq⟩, l, [.bl false, .bl true, .bl false], [.bl false, .bl true, .bl false], .bl true, .bl true, rfl, rfl, sq, hL _, Has.bl_iff.mpr rfl, by simp [depL, dep], 1, 1, rfl, rfl, false, rfl, iteF ?_⟩
    refine ⟨.ref a, rfl, a, C, true, ec, ha2, ⟨true, rfl, iteF ?_⟩, .inl ⟨"ValueError", rfl, k4⟩⟩
    refine ⟨(show 3 ≤ sizeLine from by decide), fun l2 hl2 => ?_⟩
    have nl : l ≠ l2 := ne_of_none upd_same hl2
    have sq2 : SqL K (upd (upd (upd H p (.tup [.ref CE, .ref CW, .ref CM])) l (.lst [.bl false, .bl true, .bl false])) l2 (.lst [.str "text", .str "house", .str "other"])) l [.bl false, .bl true, .bl false] := SqL.of (by rw [upd_ne nl]; exact upd_same)
    refine ⟨.ref l, rfl, .inl ⟨rfl, _, sq2⟩, l, [.bl false, .bl true, .bl false], [.bl false, .bl true, .bl false], .bl true, .bl true, 1, .bl true, rfl, rfl, sq2, hL _, Has.bl_iff.mpr rfl, by simp [depL, dep], rfl, rfl, fun m d' hm e => by
      obtain rfl : m = 0 := by omega
      cases e
      rfl, ?_⟩
    refine ⟨l2, [.str "text", .str "house", .str "other"], 1, .str (wordK 1), rfl, rfl, SqL.of upd_same, rfl, ?_⟩
    exact q _ (((same_upd hp).trans (same_upd hl)).trans (same_upd hl2))
noncomputable def F_t : FS := (seqF (ifS (blF (bind2 (isD false) (vF 4) (cF .non))) (retF (cF (.bl true))) nxF) (seqF (ifS (orT (notT (blF (bind1 (isTy "tuple") (vF 4)))) (orT (notT (blF (appF g_l_whole (consA (bind2 ixD (vF 4) (cF (.int 0))) nilA)))) (notT (blF (bind1 (isTy "list") (bind2 ixD (vF 4) (cF (.int 1)))))))) (retF (cF (.bl false))) nxF) (seqF (forF (seqX (bind2 ixD (vF 4) (cF (.int 1)))) (nameG 6) (ifS (orT (notT (blF (bind1 (isTy "tuple") (vF 6)))) (blF (bind2 gtD (appF lenD (consA (mapLst (compF 1 [] (seqX (vF 6)) (nameG 0) (notT (blF (appF g_l_whole (consA (vF 0) nilA)))) (vF 0))) nilA)) (cF (.int 0))))) (retF (cF (.bl false))) nxF)) (retF (cF (.bl true))))))
noncomputable def rightD (c : Str) (h w due found : D) : Option D := (bind2 ixD (vF 2) (cF (.int 0)) [.fr h, .fr w, .fr due, .no, .fr found, .no, .no]).bind fun d0 => if eqD (.str c) d0 = false then some (.bl false) else
  ((blF (bind2 neF (vF 4) (bind2 ixD (vF 2) (cF (.int 1))))) [.fr h, .fr w, .fr due, .no, .fr found, .no, .no]).bind fun b => if b = true then some (.bl false) else outD (F_t [.fr h, .fr w, .fr due, .no, .fr found, .no, .no])
noncomputable def g_law : List D → Option D
  | [h] => (g_l_written [h]).bind fun w => (g_l_due [w]).bind fun due => (gx_read_house [w]).bind fun r => match r with
    | .v d => rightD "good" h w due d
    | .ex n => if n = "NoText" then rightD "text" h w due .non else if n = "NoHouse" then rightD "house" h w due .non else none
  | _ => none
theorem sc_law : FnScope ["_law_script", "_law_written_here", "_law_due_here", "_law_kept", "_law_found", "e", "_law_turn"] ["_law_script"] (defScope s_law) := ⟨rfl, rfl, rfl, by decide +kernel, rfl, by decide +kernel, by decide +kernel⟩
theorem ok_law {P : Program} {w : World} {K : PySem.W.Frag} {mg : Str → Option Value} {base : Heap} {f fc : Addr} {fd fdc : FuncData} {psc : List Str} {CT CN CE CW CM CH : Addr} (Fn : Fun K "law" "law" s_law f fd) (T : Txt K mg)
    (mT : mg "NoText" = some (.ref CT)) (mN : mg "NoHouse" = some (.ref CN)) (mH : mg "HouseError" = some (.ref CH)) (c0 : Catches K CH CT) (c1 : Catches K CH CN) (r0 : RefC K CT CN CE CW CM CT 0) (r1 : RefC K CT CN CE CW CM CN 1)
    (Fc : FnOk P w K mg base CX0 1 fc fdc psc (spCl K CT CN CE CW CM)) (mc : mg "_law_class" = some (.ref fc)) (kc : PySem.W.keepIn K (.ref fc) = true) (bc : Binds K fdc psc [])
    (h_read_house : HasFnX P w K mg base 2 "read_house" 1 gx_read_house) (h_l_due : HasFn P w K mg base 2 "_law_due" 1 g_l_due) (h_l_whole : HasFn P w K mg base 1 "_law_whole" 1 g_l_whole) (h_l_written : HasFn P w K mg base 3 "_law_written" 1 g_l_written) :
    FnOk P w K mg base CX0 4 f fd ["_law_script"] (spF K 1 g_law) := by
  obtain ⟨f1, fd1, ps1, F1, m1, k1, b1⟩ := h_read_house.ex
  refine Fn.ok (k := 3) sc_law (fun vs H Q E h => ?_) (fun cdv A outer s H vs Q E hr h => ?_)
  · obtain ⟨Hf, ds, d, _, h1, h2, _⟩ := h
    rw [h1.length]; exact h2
  obtain ⟨Hf, ds, d, sf, hl, hn, hg, q⟩ := h
  have tl : DSs (cxOf CX0 P w K mg base ["_law_script", "_law_written_here", "_law_due_here", "_law_kept", "_law_found", "e", "_law_turn"] "law" (defScope s_law) f cdv A outer s H E).nox ((defBody s_law).drop 6) F_t := (dss_cons (ds_if (dt_is (DE.dr (dv 4)) (DE.dr d_non)) (dss_one (ds_ret d_bl)) dss_nil) (dss_cons (ds_if (DW.dt (dw_or (dt_not (dt_val (DE.dr (d_isTy ty_tuple (DE.dr (dv 4)) rfl T.isinstance_b rfl T.tuple_b)))) (dw_or (dt_not (dt_val (DE.dr (d_callH h_l_whole (hr.mono (by decide)) rfl (da_cons (d_ix (DE.dr (dv 4)) (DE.dr d_int)) da_nil) (lenAS lenA0))))) (dw_or1 (dt_not (dt_val (DE.dr (d_isTy ty_list (DE.dr (d_ix (DE.dr (dv 4)) (DE.dr d_int))) rfl T.isinstance_b rfl T.list_b)))))))) (dss_one (ds_ret d_bl)) dss_nil) (dss_cons (ds_for PassesOwn.never rfl (di_seqX (d_ix (DE.dr (dv 4)) (DE.dr d_int))) (dg_name 6 sc_law.nd) (dss_one (ds_if (DW.dt (dw_or (dt_not (dt_val (DE.dr (d_isTy ty_tuple (DE.dr (dv 6)) rfl T.isinstance_b rfl T.tuple_b)))) (dw_or1 (dt_gt (DE.dr (d_callB call_lenG fnR_len rfl T.len_b (by rfl) (dar_cons (DE.dr (DN.de (dn_comp (own := ["_law_part_here"]) (frees := []) (caps := []) rfl (.of (by kernel_rfl)) rfl kn_name (di_seqX (dv 6)) (fun cl C s H fp => ⟨(dg_name 0 (show List.Nodup (["_law_part_here"] : List Str) from by decide +kernel)), (dq_one (dt_not (dt_val (DE.dr (d_callH h_l_whole (hr.mono (by decide)) rfl (da_cons (dv 0) da_nil) (lenAS lenA0)))))), (dv 0)⟩)))) dar_nil))) (DE.dr d_int))))) (dss_one (ds_ret d_bl)) dss_nil))) (dss_one (ds_ret d_bl)))))
  refine ⟨_, pss_cons (ds_asg 1 sc_law.nd (d_callH h_l_written (hr.mono (by decide)) rfl (da_cons (dv 0) da_nil) (lenAS lenA0))) (pss_cons (ds_asg 2 sc_law.nd (d_callH h_l_due (hr.mono (by decide)) rfl (da_cons (dv 1) da_nil) (lenAS lenA0))) (pss_cons (ds_asg 3 sc_law.nd d_non) (pss_cons (ds_asg 4 sc_law.nd d_non)
    (pss_cons (ps_try (i := 5) (ptr_asg (i := 4) F1 (hr.mono (by decide)) (by rfl) m1 k1 b1 (fun E => pa_cons (pv 1) pa_nil) sc_law.nd (by rfl) (.inl rfl)) ⟨(by rfl), (by rfl)⟩ (by rfl) mH sc_law.nd (by rfl) (by rfl) (fun a => pss_one (ps_set (i := 3) sc_law.nd (by rfl) (.inl rfl) (pv 5))))
    (pss_cons (ps_if (pw_or (pt_cmpR (op_neD hr) (pe_call Fc (hr.mono (by decide)) (by rfl) mc kc bc .nil pass0 (pa_cons (pv 3) pa_nil)) (d_ix (DE.dr (dv 2)) (DE.dr d_int)) (nomark _)) (pw_or1 (dt_ne hr (DE.dr (dv 4)) (DE.dr (d_ix (DE.dr (dv 2)) (DE.dr d_int)))))).pt (pss_one (ps_ret pe_bl)) pss_nil) tl))))), ?_⟩
  obtain ⟨d0, rfl⟩ : ∃ d0, ds = [d0] := by
    match ds, hn with
    | [a], _ => exact ⟨a, rfl⟩
  obtain ⟨wd, ew, hg⟩ := Option.bind_eq_some_iff.mp (show (g_l_written [d0]).bind _ = some d from hg)
  obtain ⟨du, ed, hg⟩ := Option.bind_eq_some_iff.mp hg
  have R0 := rep_start (N := ["_law_script", "_law_written_here", "_law_due_here", "_law_kept", "_law_found", "e", "_law_turn"]) sf hl
  refine ⟨H, Hf, _, Hf, .nx [.fr d0, .fr wd, .no, .no, .no, .no, .no], R0, by
    show (asgF 1 (appF g_l_written (consA (vF 0) nilA))) [.fr d0, .no, .no, .no, .no, .no, .no] = _
    simp only [s_asgF, s_appF, s_consA, s_nilA, s_vF, List.getElem?_cons_zero, Option.bind_some, ew, List.set_cons_succ, List.set_cons_zero], fun σ1 H1 Hf1 R1 t1 => ?_⟩
  refine ⟨H, Hf, _, Hf1, .nx [.fr d0, .fr wd, .fr du, .no, .no, .no, .no], R1, by
    show (asgF 2 (appF g_l_due (consA (vF 1) nilA))) [.fr d0, .fr wd, .no, .no, .no, .no, .no] = _
    simp only [s_asgF, s_appF, s_consA, s_nilA, s_vF, List.getElem?_cons_zero, List.getElem?_cons_succ, Option.bind_some, ed, List.set_cons_succ, List.set_cons_zero], fun σ2 H2 Hf2 R2 t2 => ?_⟩
  refine ⟨H, Hf, _, Hf2, .nx [.fr d0, .fr wd, .fr du, .fr .non, .no, .no, .no], R2, rfl, fun σ3 H3 Hf3 R3 t3 => ?_⟩
  refine ⟨H, Hf, _, Hf3, .nx [.fr d0, .fr wd, .fr du, .fr .non, .fr .non, .no, .no], R3, rfl, fun σ4 H4 Hf4 R4 t4 => ?_⟩
  have hlen : σ4.length = 7 := R4.len.symm
  have rest : ∀ (kv : V) (σ : L2.St) (c : Str) (fd' : D) (H1 Hf1 : Hp), σ[3]? = some (some kv) → Rep K H Hf σ [.fr d0, .fr wd, .fr du, .no, .fr fd', .no, .no] H1 Hf1 → rightD c d0 wd du fd' = some d → (∀ Qc : VK, (∀ H2, Same H1 H2 → Qc (.str c) H2) → spCl K CT CN CE CW CM [kv] H1 Qc E0) →
      tSeq (tIfS (tOr (tTest (tOp (rNeD K) (tCall (spCl K CT CN CE CW CM) [] E0 (tCons (tVar 3) tNil)) (tF K (bind2 ixD (vF 2) (cF (.int 0)))))) (tT K (blF (bind2 neF (vF 4) (bind2 ixD (vF 2) (cF (.int 1))))))) (tRet (tC (.bl false))) tNext) (tS K F_t) { nx := fun _ H' => Q .non H', rt := Q } σ H1 := by
    intro kv σ c fd' H1 Hf1 hk3 R hr' call
    unfold rightD at hr'
    obtain ⟨x0, ex0, hr'⟩ := Option.bind_eq_some_iff.mp hr'
    refine ⟨kv, hk3, ?_⟩
    unfold tNil
    refine call _ fun H2 s2 => ?_
    have R2 : Rep K H Hf σ [.fr d0, .fr wd, .fr du, .no, .fr fd', .no, .no] H2 Hf1 := R.grow s2 sameR (R.sf.trans s2) (fun b o e => .inl e)
    refine ⟨H, Hf, _, Hf1, x0, R2, ex0, fun y H3 Hf3 R3 s3 t3 hy => ?_⟩
    refine ⟨.str c, x0, Has.str_iff.mpr rfl, hy.mono R3.sf, by simp [dep], _, rfl, ?_⟩
    have fin : ∀ H' Hf', Rep K H Hf σ [.fr d0, .fr wd, .fr du, .no, .fr fd', .no, .no] H' Hf' → d = .bl false → Q (.bl false) H' := fun H' Hf' R' e => by
      subst e
      exact q _ H' Hf' ⟨R'.s0, R'.f0, R'.sf, R'.nf⟩ (Has.bl_iff.mpr rfl)
    cases hc : eqD (.str c) x0 with
    | false =>
      rw [hc] at hr'
      cases hr'
      exact iteT (iteT (fin _ _ R3 rfl))
    | true =>
      rw [hc, if_neg (by simp)] at hr'
      obtain ⟨b, eb, hr'⟩ := Option.bind_eq_some_iff.mp hr'
      refine iteF ⟨H, Hf, _, Hf3, b, R3, eb, fun H4 Hf4 R4 s4 t4 => ?_⟩
      cases b with
      | true => cases hr'; exact iteT (fin _ _ R4 rfl)
      | false =>
        rw [if_neg (by simp)] at hr'
        refine iteF ?_
        cases ho : F_t [.fr d0, .fr wd, .fr du, .no, .fr fd', .no, .no] with
        | none => rw [ho] at hr'; cases hr'
        | some o =>
          rw [ho] at hr'
          cases o with
          | rt dd =>
            cases hr'
            exact ⟨H, Hf, _, Hf4, _, R4, ho, fun v σ' ρ' H' Hf' R' _ hv => q v H' Hf' ⟨R'.s0, R'.f0, R'.sf, R'.nf⟩ hv⟩
          | nx ρ' =>
            cases hr'
            exact ⟨H, Hf, _, Hf4, _, R4, ho, fun σ' H' Hf' R' _ => q _ H' Hf' ⟨R'.s0, R'.f0, R'.sf, R'.nf⟩ (Has.non_iff.mpr rfl)⟩
          | bk _ => cases hr'
          | ct _ => cases hr'
  obtain ⟨v1, ev1, hv1⟩ := R4.fr 1 wd rfl
  obtain ⟨v3, ev3, hv3⟩ := R4.fr 3 .non rfl
  have hl2 : HasL K Hf4 [wd] [v1] := ⟨_, _, rfl, hv1, rfl⟩
  refine ⟨v1, ev1, ?_⟩
  unfold tNil
  cases e : gx_read_house [wd] with
  | none => rw [e] at hg; cases hg
  | some r =>
    rw [e] at hg
    cases r with
    | v d' =>
      refine spX_v (mg := mg) (n := 1) R4.sf hl2 rfl e fun v H' Hf' gr hv => ?_
      have k3 : (σ4.set 4 (some v))[3]? = some (some V.non) := by rw [List.getElem?_set_ne (by decide), ev3, Has.non_iff.mp hv3]
      exact rest .non _ "good" d' H' Hf' k3 (((R4.grows gr).set 4 hv).hide 3) hg fun Qc h => .inl ⟨rfl, h _ sameR⟩
    | ex n =>
      have exc : ∀ (C : Addr) (k : Nat) (H' Hf' : Hp), k < 2 → Catches K CH C → RefC K CT CN CE CW CM C k → Grows H4 Hf4 H' Hf' → rightD (wordK k) d0 wd du .non = some d → ∀ a, H' a = none →
        tSeq (tIfS (tOr (tTest (tOp (rNeD K) (tCall (spCl K CT CN CE CW CM) [] E0 (tCons (tVar 3) tNil)) (tF K (bind2 ixD (vF 2) (cF (.int 0)))))) (tT K (blF (bind2 neF (vF 4) (bind2 ixD (vF 2) (cF (.int 1))))))) (tRet (tC (.bl false))) tNext) (tS K F_t) { nx := fun _ H' => Q .non H', rt := Q } (((σ4.set 5 (some (.ref a))).set 3 (some (.ref a))).set 5 none) (upd H' a (exO a C)) := fun C k H' Hf' hk cc rr gr hg a ha => by
        have s1 : Same H' (upd H' a (exO a C)) := same_upd ha
        have R5 := (R4.grows gr).grow s1 sameR ((R4.grows gr).sf.trans s1) (fun b o e => .inl e)
        have R6 := ((R5.dropAt 5 (some (.ref a))).dropAt 3 (some (.ref a))).dropAt 5 none
        exact rest (.ref a) _ (wordK k) .non _ Hf' (by rw [List.getElem?_set_ne (by decide), List.getElem?_set_self (by rw [List.length_set, hlen]; decide)]) R6 hg fun Qc h => .inr ⟨a, C, k, rfl, upd_same, hk, rr, fun H2 s2 => h H2 s2⟩
      have a5 : ∀ a : Addr, (σ4.set 5 (some (.ref a)))[5]? = some (some (V.ref a)) := fun a => List.getElem?_set_self (by rw [hlen]; decide)
      have hg : (if n = "NoText" then rightD "text" d0 wd du .non else if n = "NoHouse" then rightD "house" d0 wd du .non else none) = some d := hg
      split at hg
      · rename_i hn
        subst hn
        refine spX_ex (mg := mg) (n := 1) R4.sf hl2 rfl e fun C H' Hf' mC gr => ?_
        have eC := mT.symm.trans mC
        cases eC
        exact ⟨CT, rfl, c0, fun a ha => ⟨.ref a, a5 a, exc CT 0 H' Hf' (by decide) c0 r0 gr hg a ha⟩⟩
      · split at hg
        · rename_i hn
          subst hn
          refine spX_ex (mg := mg) (n := 1) R4.sf hl2 rfl e fun C H' Hf' mC gr => ?_
          have eC := mN.symm.trans mC
          cases eC
          exact ⟨CN, rfl, c1, fun a ha => ⟨.ref a, a5 a, exc CN 1 H' Hf' (by decide) c1 r1 gr hg a ha⟩⟩
        · cases hg
theorem all_mk {l : PySem.W.OpenLaw} {w : World} {K : PySem.W.Frag} {h : Heap} {mg : Str → Option Value} {fa : Addr} (X : K.In h) (G : h.Ns mainGlobals mg) (hfa : mg "law" = some (.ref fa))
    {f0 : Addr} {oc0 : Value} {od0 an0 : Option Addr} {osl0 : Array (Option Value)} {kV0 doc0 pm0 cdv0 ct0 : Value}
    {f1 : Addr} {oc1 : Value} {od1 an1 : Option Addr} {osl1 : Array (Option Value)} {kV1 doc1 pm1 cdv1 ct1 : Value}
    {f2 : Addr} {oc2 : Value} {od2 an2 : Option Addr} {osl2 : Array (Option Value)} {kV2 doc2 pm2 cdv2 ct2 : Value}
    {f3 : Addr} {oc3 : Value} {od3 an3 : Option Addr} {osl3 : Array (Option Value)} {kV3 doc3 pm3 cdv3 ct3 : Value}
    {f4 : Addr} {oc4 : Value} {od4 an4 : Option Addr} {osl4 : Array (Option Value)} {kV4 doc4 pm4 cdv4 ct4 : Value}
    {f5 : Addr} {oc5 : Value} {od5 an5 : Option Addr} {osl5 : Array (Option Value)} {kV5 doc5 pm5 cdv5 ct5 : Value}
    {f6 : Addr} {oc6 : Value} {od6 an6 : Option Addr} {osl6 : Array (Option Value)} {kV6 doc6 pm6 cdv6 ct6 : Value}
    {f7 : Addr} {oc7 : Value} {od7 an7 : Option Addr} {osl7 : Array (Option Value)} {kV7 doc7 pm7 cdv7 ct7 : Value}
    {f8 : Addr} {oc8 : Value} {od8 an8 : Option Addr} {osl8 : Array (Option Value)} {kV8 doc8 pm8 cdv8 ct8 : Value}
    {f9 : Addr} {oc9 : Value} {od9 an9 : Option Addr} {osl9 : Array (Option Value)} {kV9 doc9 pm9 cdv9 ct9 : Value}
    {f10 : Addr} {oc10 : Value} {od10 an10 : Option Addr} {osl10 : Array (Option Value)} {kV10 doc10 pm10 cdv10 ct10 : Value}
    {f11 : Addr} {oc11 : Value} {od11 an11 : Option Addr} {osl11 : Array (Option Value)} {kV11 doc11 pm11 cdv11 ct11 : Value}
    {f12 : Addr} {oc12 : Value} {od12 an12 : Option Addr} {osl12 : Array (Option Value)} {kV12 doc12 pm12 cdv12 ct12 : Value}
    {t_LETTERS : Tok}
    {t_MIRROR_FIGURES : Tok}
    {t_NEVER : Tok}
    {t_NEVER_SIGN : Tok}
    {tk_TOLD_TURNS_0 : Tok}
    {tk_TOLD_TURNS_1 : Tok}
    {tk_TOLD_TURNS_2 : Tok}
    {tk_TOLD_TURNS_3 : Tok}
    {tk_TOLD_TURNS_4 : Tok}
    {ta_TOLD_TURNS : Addr} {od_TOLD_TURNS : Option Addr} {n_TOLD_TURNS : Nat} {osl_TOLD_TURNS : Array (Option Value)}
    {t_TURN_FIGURES : Tok}
    {CN CH CE CT CW CM : Addr}
    {fq : Addr} {ocq : Value} {odq anq : Option Addr} {oslq : Array (Option Value)} {kVq docq pmq cdvq ctq : Value}
    (a0 : PySem.W.nsIn K mainGlobals "check_house" = some (some (.ref f0))) (l0 : K.lookup f0 = some ⟨oc0, od0, .func (PySem.W.fnOf "check_house" "check_house" (defArgs s_check_house) (defBody s_check_house) (defScope s_check_house) .none kV0 doc0 pm0 an0 cdv0 ct0), osl0⟩) (c0 : PySem.W.codeIn K cdv0 "check_house" = true) (k0 : PySem.W.keepIn K (.ref f0) = true)
    (a1 : PySem.W.nsIn K mainGlobals "is_turn_text" = some (some (.ref f1))) (l1 : K.lookup f1 = some ⟨oc1, od1, .func (PySem.W.fnOf "is_turn_text" "is_turn_text" (defArgs s_is_turn_text) (defBody s_is_turn_text) (defScope s_is_turn_text) .none kV1 doc1 pm1 an1 cdv1 ct1), osl1⟩) (c1 : PySem.W.codeIn K cdv1 "is_turn_text" = true) (k1 : PySem.W.keepIn K (.ref f1) = true)
    (a2 : PySem.W.nsIn K mainGlobals "read_turn" = some (some (.ref f2))) (l2 : K.lookup f2 = some ⟨oc2, od2, .func (PySem.W.fnOf "read_turn" "read_turn" (defArgs s_read_turn) (defBody s_read_turn) (defScope s_read_turn) .none kV2 doc2 pm2 an2 cdv2 ct2), osl2⟩) (c2 : PySem.W.codeIn K cdv2 "read_turn" = true) (k2 : PySem.W.keepIn K (.ref f2) = true)
    (a3 : PySem.W.nsIn K mainGlobals "read_house" = some (some (.ref f3))) (l3 : K.lookup f3 = some ⟨oc3, od3, .func (PySem.W.fnOf "read_house" "read_house" (defArgs s_read_house) (defBody s_read_house) (defScope s_read_house) .none kV3 doc3 pm3 an3 cdv3 ct3), osl3⟩) (c3 : PySem.W.codeIn K cdv3 "read_house" = true) (k3 : PySem.W.keepIn K (.ref f3) = true)
    (a4 : PySem.W.nsIn K mainGlobals "_law_at" = some (some (.ref f4))) (l4 : K.lookup f4 = some ⟨oc4, od4, .func (PySem.W.fnOf "_law_at" "_law_at" (defArgs s_l_at) (defBody s_l_at) (defScope s_l_at) .none kV4 doc4 pm4 an4 cdv4 ct4), osl4⟩) (c4 : PySem.W.codeIn K cdv4 "_law_at" = true) (k4 : PySem.W.keepIn K (.ref f4) = true)
    (a5 : PySem.W.nsIn K mainGlobals "_law_mix" = some (some (.ref f5))) (l5 : K.lookup f5 = some ⟨oc5, od5, .func (PySem.W.fnOf "_law_mix" "_law_mix" (defArgs s_l_mix) (defBody s_l_mix) (defScope s_l_mix) .none kV5 doc5 pm5 an5 cdv5 ct5), osl5⟩) (c5 : PySem.W.codeIn K cdv5 "_law_mix" = true) (k5 : PySem.W.keepIn K (.ref f5) = true)
    (a6 : PySem.W.nsIn K mainGlobals "_law_whole" = some (some (.ref f6))) (l6 : K.lookup f6 = some ⟨oc6, od6, .func (PySem.W.fnOf "_law_whole" "_law_whole" (defArgs s_l_whole) (defBody s_l_whole) (defScope s_l_whole) .none kV6 doc6 pm6 an6 cdv6 ct6), osl6⟩) (c6 : PySem.W.codeIn K cdv6 "_law_whole" = true) (k6 : PySem.W.keepIn K (.ref f6) = true)
    (a7 : PySem.W.nsIn K mainGlobals "_law_odd" = some (some (.ref f7))) (l7 : K.lookup f7 = some ⟨oc7, od7, .func (PySem.W.fnOf "_law_odd" "_law_odd" (defArgs s_l_odd) (defBody s_l_odd) (defScope s_l_odd) .none kV7 doc7 pm7 an7 cdv7 ct7), osl7⟩) (c7 : PySem.W.codeIn K cdv7 "_law_odd" = true) (k7 : PySem.W.keepIn K (.ref f7) = true)
    (a8 : PySem.W.nsIn K mainGlobals "_law_part" = some (some (.ref f8))) (l8 : K.lookup f8 = some ⟨oc8, od8, .func (PySem.W.fnOf "_law_part" "_law_part" (defArgs s_l_part) (defBody s_l_part) (defScope s_l_part) .none kV8 doc8 pm8 an8 cdv8 ct8), osl8⟩) (c8 : PySem.W.codeIn K cdv8 "_law_part" = true) (k8 : PySem.W.keepIn K (.ref f8) = true)
    (a9 : PySem.W.nsIn K mainGlobals "_law_written" = some (some (.ref f9))) (l9 : K.lookup f9 = some ⟨oc9, od9, .func (PySem.W.fnOf "_law_written" "_law_written" (defArgs s_l_written) (defBody s_l_written) (defScope s_l_written) .none kV9 doc9 pm9 an9 cdv9 ct9), osl9⟩) (c9 : PySem.W.codeIn K cdv9 "_law_written" = true) (k9 : PySem.W.keepIn K (.ref f9) = true)
    (a10 : PySem.W.nsIn K mainGlobals "_law_words" = some (some (.ref f10))) (l10 : K.lookup f10 = some ⟨oc10, od10, .func (PySem.W.fnOf "_law_words" "_law_words" (defArgs s_l_words) (defBody s_l_words) (defScope s_l_words) .none kV10 doc10 pm10 an10 cdv10 ct10), osl10⟩) (c10 : PySem.W.codeIn K cdv10 "_law_words" = true) (k10 : PySem.W.keepIn K (.ref f10) = true)
    (a11 : PySem.W.nsIn K mainGlobals "_law_due" = some (some (.ref f11))) (l11 : K.lookup f11 = some ⟨oc11, od11, .func (PySem.W.fnOf "_law_due" "_law_due" (defArgs s_l_due) (defBody s_l_due) (defScope s_l_due) .none kV11 doc11 pm11 an11 cdv11 ct11), osl11⟩) (c11 : PySem.W.codeIn K cdv11 "_law_due" = true) (k11 : PySem.W.keepIn K (.ref f11) = true)
    (a12 : PySem.W.nsIn K mainGlobals "law" = some (some (.ref f12))) (l12 : K.lookup f12 = some ⟨oc12, od12, .func (PySem.W.fnOf "law" "law" (defArgs s_law) (defBody s_law) (defScope s_law) .none kV12 doc12 pm12 an12 cdv12 ct12), osl12⟩) (c12 : PySem.W.codeIn K cdv12 "law" = true) (k12 : PySem.W.keepIn K (.ref f12) = true)
    (b_ValueError : PySem.W.nsIn K mainGlobals "ValueError" = some none)
    (b_bool : PySem.W.nsIn K mainGlobals "bool" = some none)
    (b_int : PySem.W.nsIn K mainGlobals "int" = some none)
    (b_isinstance : PySem.W.nsIn K mainGlobals "isinstance" = some none)
    (b_len : PySem.W.nsIn K mainGlobals "len" = some none)
    (b_list : PySem.W.nsIn K mainGlobals "list" = some none)
    (b_max : PySem.W.nsIn K mainGlobals "max" = some none)
    (b_min : PySem.W.nsIn K mainGlobals "min" = some none)
    (b_range : PySem.W.nsIn K mainGlobals "range" = some none)
    (b_sorted : PySem.W.nsIn K mainGlobals "sorted" = some none)
    (b_str : PySem.W.nsIn K mainGlobals "str" = some none)
    (b_tuple : PySem.W.nsIn K mainGlobals "tuple" = some none)
    (q_LETTERS : PySem.W.nsIn K mainGlobals "LETTERS" = some (some (.str "abcdef" t_LETTERS)))
    (q_MIRROR_FIGURES : PySem.W.nsIn K mainGlobals "MIRROR_FIGURES" = some (some (.str "123456" t_MIRROR_FIGURES)))
    (q_NEVER : PySem.W.nsIn K mainGlobals "NEVER" = some (some (.int 0 t_NEVER)))
    (q_NEVER_SIGN : PySem.W.nsIn K mainGlobals "NEVER_SIGN" = some (some (.str "*" t_NEVER_SIGN)))
    (q_TOLD_TURNS : PySem.W.nsIn K mainGlobals "TOLD_TURNS" = some (some (.ref ta_TOLD_TURNS)))
    (r_TOLD_TURNS : K.lookup ta_TOLD_TURNS = some ⟨.type "tuple", od_TOLD_TURNS, .seq #[.int 0 tk_TOLD_TURNS_0, .int 3 tk_TOLD_TURNS_1, .int 4 tk_TOLD_TURNS_2, .int 5 tk_TOLD_TURNS_3, .int 6 tk_TOLD_TURNS_4] n_TOLD_TURNS, osl_TOLD_TURNS⟩)
    (q_TURN_FIGURES : PySem.W.nsIn K mainGlobals "TURN_FIGURES" = some (some (.str "3456" t_TURN_FIGURES)))
    (enN : PySem.W.nsIn K mainGlobals "NoHouse" = some (some (.ref CN)))
    (enH : PySem.W.nsIn K mainGlobals "HouseError" = some (some (.ref CH)))
    (enE : PySem.W.nsIn K mainGlobals "Endless" = some (some (.ref CE)))
    (enT : PySem.W.nsIn K mainGlobals "NoText" = some (some (.ref CT)))
    (enW : PySem.W.nsIn K mainGlobals "NoWord" = some (some (.ref CW)))
    (enM : PySem.W.nsIn K mainGlobals "TooMany" = some (some (.ref CM)))
    (ec1 : PySem.W.typeIn K (.ref CH) = some (.type "type"))
    (ec2 : PySem.W.hasDictIn K CH = true)
    (ec3 : PySem.W.subIn K (.ref CH) (.type "BaseException") = some true)
    (eokT : PySem.W.excIn K CT vErr "ValueError.__new__" = true)
    (ec4T : PySem.W.subIn K (.ref CT) (.ref CH) = some true)
    (eg1T : PySem.W.findIn K (.ref CT) "__getattribute__" = some (some (.builtin "BaseException.__getattribute__")))
    (eg2T : PySem.W.findIn K (.ref CT) "__getattr__" = some none)
    (eg3T : PySem.W.findIn K (.ref CT) "__class__" = some (some (.builtin "object.__class__")))
    (eg4T : PySem.W.specialIn K (.builtin "object.__class__") "__get__" = some (some (.builtin "getset_descriptor.__get__")))
    (eg5T : PySem.W.takesIn K (.builtin "object.__class__") = some true)
    (eg6T : PySem.W.mroIn K CT (.type "object") = some true)
    (eg7T : PySem.W.mroIn K CT (.type "BaseException") = some true)
    (eg8T : PySem.W.hasDictIn K CT = true)
    (ek1T : PySem.W.kitOne K (.ref CT) (.ref CT) = some true)
    (ek2T : PySem.W.kitOne K (.ref CT) (.ref CN) = some false)
    (ek3T : PySem.W.kitAny K (.ref CT) [.ref CE, .ref CW, .ref CM] = some false)
    (ek4T : PySem.W.kitOne K (.ref CT) (.type "ValueError") = some true)
    (eokN : PySem.W.excIn K CN vErr "ValueError.__new__" = true)
    (ec4N : PySem.W.subIn K (.ref CN) (.ref CH) = some true)
    (eg1N : PySem.W.findIn K (.ref CN) "__getattribute__" = some (some (.builtin "BaseException.__getattribute__")))
    (eg2N : PySem.W.findIn K (.ref CN) "__getattr__" = some none)
    (eg3N : PySem.W.findIn K (.ref CN) "__class__" = some (some (.builtin "object.__class__")))
    (eg4N : PySem.W.specialIn K (.builtin "object.__class__") "__get__" = some (some (.builtin "getset_descriptor.__get__")))
    (eg5N : PySem.W.takesIn K (.builtin "object.__class__") = some true)
    (eg6N : PySem.W.mroIn K CN (.type "object") = some true)
    (eg7N : PySem.W.mroIn K CN (.type "BaseException") = some true)
    (eg8N : PySem.W.hasDictIn K CN = true)
    (ek1N : PySem.W.kitOne K (.ref CN) (.ref CT) = some false)
    (ek2N : PySem.W.kitOne K (.ref CN) (.ref CN) = some true)
    (ek3N : PySem.W.kitAny K (.ref CN) [.ref CE, .ref CW, .ref CM] = some false)
    (ek4N : PySem.W.kitOne K (.ref CN) (.type "ValueError") = some true)
    (aq : PySem.W.nsIn K mainGlobals "_law_class" = some (some (.ref fq))) (lq : K.lookup fq = some ⟨ocq, odq, .func (PySem.W.fnOf "_law_class" "_law_class" (defArgs s_l_class) (defBody s_l_class) (defScope s_l_class) .none kVq docq pmq anq cdvq ctq), oslq⟩) (cq : PySem.W.codeIn K cdvq "_law_class" = true) (kq : PySem.W.keepIn K (.ref fq) = true)
    : ∃ fd : FuncData, (∀ (s : Shared) (v : Value), BindsTo s fd ⟨[v], []⟩ [("_law_script", v)]) ∧ ∀ base : Heap, K.In base → base.Ns mainGlobals mg → FnOk l.prog w K mg base CX0 4 fa fd ["_law_script"] (spF K 1 g_law) := by
  have e := hfa.symm.trans (PySem.W.mg_of X G a12)
  cases e
  have T : Txt K mg := ⟨trivial, PySem.W.mg_none_of X G b_ValueError, PySem.W.mg_none_of X G b_bool, PySem.W.mg_none_of X G b_int, PySem.W.mg_none_of X G b_isinstance, PySem.W.mg_none_of X G b_len, PySem.W.mg_none_of X G b_list, PySem.W.mg_none_of X G b_max, PySem.W.mg_none_of X G b_min, PySem.W.mg_none_of X G b_range, PySem.W.mg_none_of X G b_sorted, PySem.W.mg_none_of X G b_str, PySem.W.mg_none_of X G b_tuple, ⟨_, PySem.W.mg_of X G q_LETTERS⟩, ⟨_, PySem.W.mg_of X G q_MIRROR_FIGURES⟩, ⟨_, PySem.W.mg_of X G q_NEVER⟩, ⟨_, PySem.W.mg_of X G q_NEVER_SIGN⟩, gtup_mk (xs := [.int 0, .int 3, .int 4, .int 5, .int 6]) (PySem.W.mg_of X G q_TOLD_TURNS) r_TOLD_TURNS (show 5 ≤ sizeLine from by decide) (.cons ⟨_, rfl⟩ (.cons ⟨_, rfl⟩ (.cons ⟨_, rfl⟩ (.cons ⟨_, rfl⟩ (.cons ⟨_, rfl⟩ .nil))))) (.cons (Has.int_iff.mpr rfl) (.cons (Has.int_iff.mpr rfl) (.cons (Has.int_iff.mpr rfl) (.cons (Has.int_iff.mpr rfl) (.cons (Has.int_iff.mpr rfl) .nil))))), ⟨_, PySem.W.mg_of X G q_TURN_FIGURES⟩⟩
  have F0 := fun_mk (st := s_check_house) l0 c0 k0
  have B0 := F0.binds (ps := ["house"]) fun _ _ _ _ _ _ => all1 (fun _ => rfl)
  have F1 := fun_mk (st := s_is_turn_text) l1 c1 k1
  have B1 := F1.binds (ps := ["word"]) fun _ _ _ _ _ _ => all1 (fun _ => rfl)
  have F2 := fun_mk (st := s_read_turn) l2 c2 k2
  have B2 := F2.binds (ps := ["word"]) fun _ _ _ _ _ _ => all1 (fun _ => rfl)
  have F3 := fun_mk (st := s_read_house) l3 c3 k3
  have B3 := F3.binds (ps := ["text"]) fun _ _ _ _ _ _ => all1 (fun _ => rfl)
  have F4 := fun_mk (st := s_l_at) l4 c4 k4
  have B4 := F4.binds (ps := ["_law_script", "_law_k"]) fun _ _ _ _ _ _ => all2 (fun _ _ => rfl)
  have F5 := fun_mk (st := s_l_mix) l5 c5 k5
  have B5 := F5.binds (ps := ["_law_number", "_law_place"]) fun _ _ _ _ _ _ => all2 (fun _ _ => rfl)
  have F6 := fun_mk (st := s_l_whole) l6 c6 k6
  have B6 := F6.binds (ps := ["_law_found"]) fun _ _ _ _ _ _ => all1 (fun _ => rfl)
  have F7 := fun_mk (st := s_l_odd) l7 c7 k7
  have B7 := F7.binds (ps := ["_law_number", "_law_last"]) fun _ _ _ _ _ _ => all2 (fun _ _ => rfl)
  have F8 := fun_mk (st := s_l_part) l8 c8 k8
  have B8 := F8.binds (ps := ["_law_number", "_law_mirrors", "_law_last"]) fun _ _ _ _ _ _ => all3 (fun _ _ _ => rfl)
  have F9 := fun_mk (st := s_l_written) l9 c9 k9
  have B9 := F9.binds (ps := ["_law_script"]) fun _ _ _ _ _ _ => all1 (fun _ => rfl)
  have F10 := fun_mk (st := s_l_words) l10 c10 k10
  have B10 := F10.binds (ps := ["_law_written_here"]) fun _ _ _ _ _ _ => all1 (fun _ => rfl)
  have F11 := fun_mk (st := s_l_due) l11 c11 k11
  have B11 := F11.binds (ps := ["_law_written_here"]) fun _ _ _ _ _ _ => all1 (fun _ => rfl)
  have F12 := fun_mk (st := s_law) l12 c12 k12
  have B12 := F12.binds (ps := ["_law_script"]) fun _ _ _ _ _ _ => all1 (fun _ => rfl)
  have EE_NoText : ExT K mg "NoText" CT := ⟨PySem.W.mg_of X G enT, eokT⟩
  have ECT : Catches K CH CT := ⟨ec1, ec2, ec3, ec4T⟩
  have ERT : RefC K CT CN CE CW CM CT 0 := ⟨⟨eg1T, eg2T, eg3T, eg4T, eg5T, eg6T, eg7T, eg8T⟩, ek1T, ek2T, ek3T, ek4T⟩
  have EE_NoHouse : ExT K mg "NoHouse" CN := ⟨PySem.W.mg_of X G enN, eokN⟩
  have ECN : Catches K CH CN := ⟨ec1, ec2, ec3, ec4N⟩
  have ERN : RefC K CT CN CE CW CM CN 1 := ⟨⟨eg1N, eg2N, eg3N, eg4N, eg5N, eg6N, eg7N, eg8N⟩, ek1N, ek2N, ek3N, ek4N⟩
  have Fq := fun_mk (st := s_l_class) lq cq kq
  have Bq := Fq.binds (ps := ["_law_kept"]) fun _ _ _ _ _ _ => all1 (fun _ => rfl)
  refine ⟨PySem.W.fnOf "law" "law" (defArgs s_law) (defBody s_law) (defScope s_law) .none kV12 doc12 pm12 an12 cdv12 ct12, fun s v => .of_eq rfl, fun base _ _ => ?_⟩
  have H0 : HasFn l.prog w K mg base 1 "check_house" 1 g_check_house := ⟨⟨_, _, _, ok_check_house F0 T , PySem.W.mg_of X G a0, k0, B0⟩⟩
  have HX0 : HasFnX l.prog w K mg base 1 "check_house" 1 gx_check_house := ⟨⟨_, _, _, okx_check_house F0 T EE_NoHouse  , PySem.W.mg_of X G a0, k0, B0⟩⟩
  have H1 : HasFn l.prog w K mg base 1 "is_turn_text" 1 g_is_turn_text := ⟨⟨_, _, _, ok_is_turn_text F1 T , PySem.W.mg_of X G a1, k1, B1⟩⟩
  have H2 : HasFn l.prog w K mg base 1 "read_turn" 1 g_read_turn := ⟨⟨_, _, _, ok_read_turn F2 T , PySem.W.mg_of X G a2, k2, B2⟩⟩
  have H3 : HasFn l.prog w K mg base 2 "read_house" 1 g_read_house := ⟨⟨_, _, _, ok_read_house F3 T H0 H1 H2, PySem.W.mg_of X G a3, k3, B3⟩⟩
  have HX3 : HasFnX l.prog w K mg base 2 "read_house" 1 gx_read_house := ⟨⟨_, _, _, okx_read_house F3 T EE_NoText H0 H1 H2 HX0, PySem.W.mg_of X G a3, k3, B3⟩⟩
  have H4 : HasFn l.prog w K mg base 1 "_law_at" 2 g_l_at := ⟨⟨_, _, _, ok_l_at F4 T , PySem.W.mg_of X G a4, k4, B4⟩⟩
  have H5 : HasFn l.prog w K mg base 1 "_law_mix" 2 g_l_mix := ⟨⟨_, _, _, ok_l_mix F5 T , PySem.W.mg_of X G a5, k5, B5⟩⟩
  have H6 : HasFn l.prog w K mg base 1 "_law_whole" 1 g_l_whole := ⟨⟨_, _, _, ok_l_whole F6 T , PySem.W.mg_of X G a6, k6, B6⟩⟩
  have H7 : HasFn l.prog w K mg base 1 "_law_odd" 2 g_l_odd := ⟨⟨_, _, _, ok_l_odd F7 T , PySem.W.mg_of X G a7, k7, B7⟩⟩
  have H8 : HasFn l.prog w K mg base 2 "_law_part" 3 g_l_part := ⟨⟨_, _, _, ok_l_part F8 T H7, PySem.W.mg_of X G a8, k8, B8⟩⟩
  have H9 : HasFn l.prog w K mg base 3 "_law_written" 1 g_l_written := ⟨⟨_, _, _, ok_l_written F9 T H4 H5 H8, PySem.W.mg_of X G a9, k9, B9⟩⟩
  have H10 : HasFn l.prog w K mg base 1 "_law_words" 1 g_l_words := ⟨⟨_, _, _, ok_l_words F10 T , PySem.W.mg_of X G a10, k10, B10⟩⟩
  have H11 : HasFn l.prog w K mg base 2 "_law_due" 1 g_l_due := ⟨⟨_, _, _, ok_l_due F11 T H10, PySem.W.mg_of X G a11, k11, B11⟩⟩
  exact ok_law F12 T (PySem.W.mg_of X G enT) (PySem.W.mg_of X G enN) (PySem.W.mg_of X G enH) ECT ECN ERT ERN (ok_l_class Fq T.isinstance_b T.ValueError_b (PySem.W.mg_of X G enT) (PySem.W.mg_of X G enN) (PySem.W.mg_of X G enE) (PySem.W.mg_of X G enW) (PySem.W.mg_of X G enM)) (PySem.W.mg_of X G aq) kq Bq HX3 H11 H6 H9
open TX
theorem eqs (x y : Str) : eqF (.str x) (.str y) = some (.bl (decide (cp x = cp y))) := by
  show (if dep (.str x) ≤ 100 then some (D.bl (eqD (.str x) (.str y))) else none) = _
  rw [if_pos (by simp [dep])]
  show some (D.bl (x == y)) = _
  rw [cp_beq]
theorem lit0 : cp "" = [] := by rw [show cp "" = _ from PyProof.Rows.signs_ofString ""]; rfl
theorem litA : cp "abcdef" = [97, 98, 99, 100, 101, 102] := by rw [show cp "abcdef" = _ from PyProof.Rows.signs_ofString "abcdef"]; rfl
theorem cp_one (c : Nat) : cp ⟨#[c]⟩ = [c] := rfl
theorem sz1 {n : Nat} (h : n ≤ 900) : n ≤ sizeLine := Nat.le_of_lt (small1000 (by omega))
theorem ins_n (c : Nat) (z : Str) : inD true (.str ⟨#[c]⟩) (.str z) = some (.bl (!decide (c ∈ cp z))) := by
  show some (D.bl (xor true (inS ⟨#[c]⟩ z))) = _
  rw [in_one]; simp
theorem ins_p (c : Nat) (z : Str) : inD false (.str ⟨#[c]⟩) (.str z) = some (.bl (decide (c ∈ cp z))) := by
  show some (D.bl (xor false (inS ⟨#[c]⟩ z))) = _
  rw [in_one]; simp
theorem seq_nx {F G : FS} {ρ ρ' : Rho} (h : F ρ = some (.nx ρ')) : seqF F G ρ = G ρ' := by rw [s_seqF, h]; rfl
theorem seq_rt {F G : FS} {ρ : Rho} {d : D} (h : F ρ = some (.rt d)) : seqF F G ρ = some (.rt d) := by rw [s_seqF, h]; rfl
theorem sq1 {F G : FSX} {ρ ρ' : Rho} (h : F ρ = some (.o (.nx ρ'))) : sqX F G ρ = G ρ' := by unfold sqX; rw [h]; rfl
theorem sq2 {F G : FSX} {ρ : Rho} {d : D} (h : F ρ = some (.o (.rt d))) : sqX F G ρ = some (.o (.rt d)) := by unfold sqX; rw [h]; rfl
theorem sq3 {F G : FSX} {ρ : Rho} {n : Str} (h : F ρ = some (.ex n)) : sqX F G ρ = some (.ex n) := by unfold sqX; rw [h]; rfl
theorem ifX_t {c : FT} {F G : FSX} {ρ : Rho} (h : c ρ = some true) : ifX c F G ρ = F ρ := by unfold ifX; rw [h]; rfl
theorem ifX_f {c : FT} {F G : FSX} {ρ : Rho} (h : c ρ = some false) : ifX c F G ρ = G ρ := by unfold ifX; rw [h]; rfl
theorem ifS_t {c : FT} {F G : FS} {ρ : Rho} (h : c ρ = some true) : ifS c F G ρ = F ρ := by rw [s_ifS, h]; rfl
theorem ifS_f {c : FT} {F G : FS} {ρ : Rho} (h : c ρ = some false) : ifS c F G ρ = G ρ := by rw [s_ifS, h]; rfl
theorem liftX_some {F : FS} {ρ : Rho} {o : Out} (h : F ρ = some o) : liftX F ρ = some (.o o) := by unfold liftX; rw [h]; rfl
def tx (cs : List Nat) : Str := ⟨cs.toArray⟩
theorem cp_tx (cs : List Nat) : cp (tx cs) = cs := by simp [cp, tx]
theorem tx_cp (z : Str) : tx (cp z) = z := cp_ext (cp_tx _)
theorem cmapL {α : Type} {f : FE} {C : List FL.Slot} {φ ψ : α → D} : ∀ (xs : List α) (s : FL.Slot), (∀ x ∈ xs, f (.fr (φ x) :: C) = some (ψ x)) → compGo (nameG 0) ttF f (xs.map φ) (s :: C) = some (xs.map ψ)
  | [], _, _ => rfl
  | x :: xs, s, h => by
    have ih := cmapL (f := f) (C := C) (φ := φ) (ψ := ψ) xs (.fr (φ x)) (fun y e => h y (List.mem_cons_of_mem _ e))
    rw [List.map_cons]
    unfold compGo
    simp only [s_nameG, List.set_cons_zero, Option.bind_some, s_ttF, if_true, h x List.mem_cons_self, ih, List.map_cons]
theorem cnone {ft : FT} {f : FE} {C : List FL.Slot} : ∀ (ds : List D) (s : FL.Slot), (∀ d ∈ ds, ft (.fr d :: C) = some false) → compGo (nameG 0) ft f ds (s :: C) = some []
  | [], _, _ => rfl
  | d :: ds, s, h => by
    have ih := cnone (ft := ft) (f := f) (C := C) ds (.fr d) (fun y e => h y (List.mem_cons_of_mem _ e))
    unfold compGo
    simp only [s_nameG, List.set_cons_zero, Option.bind_some, h d List.mem_cons_self, ih, Bool.false_eq_true, if_false]
def isL (c : Nat) : Bool := decide (97 ≤ c ∧ c ≤ 102)
theorem isL_iff {c : Nat} : isL c = true ↔ 97 ≤ c ∧ c ≤ 102 := by unfold isL; exact decide_eq_true_iff
theorem at6 {i c : Nat} : ([97, 98, 99, 100, 101, 102] : List Nat)[i]? = some c ↔ i < 6 ∧ c = 97 + i := by
  rcases i with _ | _ | _ | _ | _ | _ | i <;> simp <;> omega
theorem mem6 {c : Nat} : decide (c ∈ cp "abcdef") = isL c := by
  unfold isL
  rw [litA]
  apply decide_eq_decide.mpr
  simp only [List.mem_cons, List.not_mem_nil, or_false]
  omega
theorem fnd (c : Nat) : Txt.find "abcdef" ⟨#[c]⟩ = if isL c = true then (c : Int) - 97 else -1 := by
  rcases PyProof.Rows.find_whole "abcdef" ⟨#[c]⟩ with ⟨h0, h1⟩ | ⟨i, h0, h1, _⟩
  · have : ¬ isL c = true := fun h => by
      have h := isL_iff.mp h
      refine absurd ((StrLaws.subAt_one "abcdef" c (c - 97)).mpr ?_) (h1 (c - 97))
      show (cp "abcdef")[c - 97]? = some c
      rw [litA, at6]; omega
    rw [h0, if_neg this]
  · have hi : (cp "abcdef")[i]? = some c := (StrLaws.subAt_one "abcdef" c i).mp h1
    rw [litA, at6] at hi
    have : isL c = true := isL_iff.mpr (by omega)
    rw [h0, if_pos this]; omega
theorem idx_find {z y : Str} {i : Nat} (h : Txt.find z y = (i : Int)) : idxS z y = some i := by
  unfold idxS
  unfold Txt.find at h
  cases e : Builtin.Str.occurrences z y 0 z.length 1 with
  | nil => rw [e] at h; exact absurd h (by simp)
  | cons j r =>
    rw [e] at h
    have : (j : Int) = (i : Int) := h
    have : j = i := by omega
    rw [this]; rfl
theorem idx6 {c : Nat} (h : isL c = true) : idxD (.str "abcdef") (.str ⟨#[c]⟩) = some (.int ((c : Int) - 97)) := by
  have h' := isL_iff.mp h
  have e : Txt.find "abcdef" ⟨#[c]⟩ = ((c - 97 : Nat) : Int) := by rw [fnd, if_pos h]; omega
  show (idxS "abcdef" ⟨#[c]⟩).map _ = _
  rw [idx_find e]
  show some (D.int ((c - 97 : Nat) : Int)) = _
  congr 2
  omega
theorem ne_same {d : D} (h : dep d ≤ 100) : neF d d = some (.bl false) := by unfold neF; rw [if_pos h, eqD_refl]; rfl
theorem ix0 {x : D} {l : List D} : ixD (.tup (x :: l)) (.int 0) = some x := by simp [ixD, atI, ixN]
theorem ix1 {x y : D} {l : List D} : ixD (.tup (x :: y :: l)) (.int 1) = some y := by
  have h := atI_nat (xs := x :: y :: l) (j := 1) (v := y) rfl
  exact h
theorem len_str {z : Str} (h : (cp z).length ≤ 900) : lenD [.str z] = some (.int (cp z).length) := by
  show (if z.length ≤ sizeLine then some (D.int z.length) else none) = _
  rw [cp_len, if_pos (sz1 h)]
theorem ix_ex (z : Str) (k : Int) (h0 : 0 ≤ k) (h1 : k < (cp z).length) (hz : (cp z).length ≤ 300) : ∃ c, ixD (.str z) (.int k) = some (.str ⟨#[c]⟩) := by
  obtain ⟨j, rfl⟩ := Int.eq_ofNat_of_zero_le h0
  have hj : j < (cp z).length := by omega
  refine ⟨(cp z)[j], ?_⟩
  show (if z.length ≤ sizeLine then (atI (cp z) (j : Int)).map fun c => D.str ⟨#[c]⟩ else none) = _
  rw [if_pos (by rw [cp_len]; exact sz1 (by omega)), atI_nat (List.getElem?_eq_getElem hj)]
  rfl
theorem add_str {x y : Str} (h : (cp x).length + (cp y).length ≤ 900) : addX (.str x) (.str y) = some (.str (x ++ y)) := by
  show (if x.length + y.length ≤ sizeLine then _ else _) = _
  rw [if_pos (by rw [cp_len, cp_len]; exact sz1 h)]
theorem ixA {i : Int} (h0 : 0 ≤ i) (h1 : i < 6) : ixD (.str "abcdef") (.int i) = some (.str ⟨#[97 + i.toNat]⟩) := by
  obtain ⟨k, rfl⟩ := Int.eq_ofNat_of_zero_le h0
  show (if ("abcdef" : Str).length ≤ sizeLine then (atI (cp "abcdef") (k : Int)).map fun c => D.str ⟨#[c]⟩ else none) = _
  rw [if_pos (by rw [cp_len, litA]; exact sz1 (by decide)), litA, atI_nat (at6.mpr ⟨by omega, rfl⟩)]
  rfl
theorem lens : cp " !\"#$&'()*+,-./0123456789:;<=>?@ABCDEFGHIJKLMNOPQRSTUVWXYZ[\\]^_`" = (" !\"#$&'()*+,-./0123456789:;<=>?@ABCDEFGHIJKLMNOPQRSTUVWXYZ[\\]^_`" : String).toList.map Char.toNat := PyProof.Rows.signs_ofString _
theorem lent : cp "abcdefghijklmnopqrstuvwxyz{|}~" = ("abcdefghijklmnopqrstuvwxyz{|}~" : String).toList.map Char.toNat := PyProof.Rows.signs_ofString _
theorem len_s : (cp " !\"#$&'()*+,-./0123456789:;<=>?@ABCDEFGHIJKLMNOPQRSTUVWXYZ[\\]^_`").length = 64 := by rw [lens]; rfl
theorem len_t : (cp "abcdefghijklmnopqrstuvwxyz{|}~").length = 30 := by rw [lent]; rfl
theorem lit2 (x : String) (h : x.toList.length ≤ 2) : (cp (x : Str)).length ≤ 2 := by
  rw [show cp (x : Str) = _ from PyProof.Rows.signs_ofString x, List.length_map]; exact h
theorem cut_map {α β : Type} (φ : α → β) (xs : List α) (lo hi : Option Int) : cutL (xs.map φ) lo hi = (cutL xs lo hi).map φ := by
  unfold cutL
  rw [List.map_take, List.map_drop, List.length_map]
open GH
theorem szl {n : Nat} (h : n ≤ 100) : n ≤ sizeLine := Nat.le_of_lt (small1000 (by omega))
abbrev kyT (t : T3) : List Key := [.inl t.1, .inl t.2.1]
def gM (m : Int) : Prop := m = 0 ∨ (3 ≤ m ∧ m ≤ 6)
instance (m : Int) : Decidable (gM m) := by unfold gM; exact inferInstance
def gR (n : Int) (t : T3) : Prop := 0 ≤ t.1 ∧ t.1 < t.2.1 ∧ t.2.1 < n
instance (n : Int) (t : T3) : Decidable (gR n t) := by unfold gR; exact inferInstance
theorem in5 (b : Bool) (m : Int) : inD b (.int m) (.tup [.int 0, .int 3, .int 4, .int 5, .int 6]) = some (.bl (xor b (decide (gM m)))) := by
  show (if depL [D.int 0, .int 3, .int 4, .int 5, .int 6] ≤ 100 then some (D.bl (b ^^ [D.int 0, .int 3, .int 4, .int 5, .int 6].any fun d => eqD d (.int m))) else none) = _
  rw [if_pos (by simp [depL, dep])]
  have : ([D.int 0, .int 3, .int 4, .int 5, .int 6].any fun d => eqD d (.int m)) = decide (gM m) := by
    by_cases h : gM m
    · have : m = 0 ∨ m = 3 ∨ m = 4 ∨ m = 5 ∨ m = 6 := by unfold gM at h; omega
      rcases this with e | e | e | e | e <;> subst e <;> simp [eqD, gM]
    · have h' : ¬ (m = 0) ∧ ¬ (m = 3) ∧ ¬ (m = 4) ∧ ¬ (m = 5) ∧ ¬ (m = 6) := by unfold gM at h; omega
      obtain ⟨h0, h3, h4, h5, h6⟩ := h'
      rw [decide_eq_false h]
      simp [eqD, h0, h3, h4, h5, h6, Ne.symm h0, Ne.symm h3, Ne.symm h4, Ne.symm h5, Ne.symm h6]
  rw [this]
noncomputable def tC1 : FT := (notT (blF (chain3F leD ltD ltD (cF (.int 0)) (vF 3) (vF 4) (vF 1))))
noncomputable def tC2 : FT := (blF (bind2 (inD true) (vF 5) (cF (.tup [(.int 0), (.int 3), (.int 4), (.int 5), (.int 6)]))))
noncomputable def tC3 : FT := (dinT 2 (consA (vF 3) (consA (vF 4) nilA)))
noncomputable def pC : FS := (dputF 2 (consA (vF 3) (consA (vF 4) nilA)) (cF (.bl true)))
noncomputable def chB : FSX := (sqX (ifX tC1 (exX "NoHouse") nxX) (sqX (ifX tC2 (exX "NoHouse") nxX) (sqX (ifX tC3 (exX "NoHouse") nxX) (liftX pC))))
noncomputable def chN : FS := (seqF (ifS tC1 neverF nxF) (seqF (ifS tC2 neverF nxF) (seqF (ifS tC3 neverF nxF) pC)))
section
variable (h : FL.Slot) (n : Int) (kvs : List (List Key × D)) (t : T3)
abbrev chR (h : FL.Slot) (n : Int) (kvs : List (List Key × D)) (t : T3) : Rho := [h, .fr (.int n), .oT kvs, .fr (.int t.1), .fr (.int t.2.1), .fr (.int t.2.2)]
theorem tC1_val : tC1 (chR h n kvs t) = some (!decide (gR n t)) := by
  unfold tC1 gR
  simp only [s_notT, s_blF, s_chain3F, s_cF, s_vF, List.getElem?_cons_succ, List.getElem?_cons_zero, Option.bind_some, s_le, s_lt]
  by_cases h1 : 0 ≤ t.1
  · by_cases h2 : t.1 < t.2.1
    · simp [h1, h2]
    · simp [h1, h2]
  · simp [h1]
theorem tC2_val : tC2 (chR h n kvs t) = some (!decide (gM t.2.2)) := by
  unfold tC2
  simp only [s_blF, s_bind2, s_vF, s_cF, List.getElem?_cons_succ, List.getElem?_cons_zero, Option.bind_some, in5]
  simp
theorem tC3_val : tC3 (chR h n kvs t) = some (kvs.any fun kv => decide (kv.1 = kyT t)) := by
  unfold tC3
  have z2 : 0 + 1 + 1 ≤ sizeLine := szl (by decide)
  have ko : keysOf [.int t.1, .int t.2.1] = some [.inl t.1, .inl t.2.1] := rfl
  simp only [s_dinT, s_consA, s_nilA, s_vF, List.getElem?_cons_succ, List.getElem?_cons_zero, Option.bind_some, ko, List.length_cons, List.length_nil, if_pos z2]
theorem pC_val (hk : kvs.length ≤ 500) (hn : (kvs.any fun kv => decide (kv.1 = kyT t)) = false) : pC (chR h n kvs t) = some (.nx (chR h n (kvs ++ [(kyT t, .bl true)]) t)) := by
  unfold pC
  have z2 : 0 + 1 + 1 ≤ sizeLine := szl (by decide)
  have ko : keysOf [.int t.1, .int t.2.1] = some [.inl t.1, .inl t.2.1] := rfl
  have cnd : kvs.length < sizeLine ∧ 0 + 1 + 1 ≤ sizeLine := ⟨small1000 (by omega), z2⟩
  have pu : putD kvs [.inl t.1, .inl t.2.1] (.bl true) = kvs ++ [(kyT t, .bl true)] := by unfold putD; rw [hn]; simp
  simp only [s_dputF, s_consA, s_nilA, s_vF, s_cF, List.getElem?_cons_succ, List.getElem?_cons_zero, Option.bind_some, ko, List.length_cons, List.length_nil, if_pos cnd, List.set_cons_succ, List.set_cons_zero, pu]
theorem ch_ok (h1 : gR n t) (h2 : gM t.2.2) (hn : (kvs.any fun kv => decide (kv.1 = kyT t)) = false) (hk : kvs.length ≤ 500) :
    chB (chR h n kvs t) = some (.o (.nx (chR h n (kvs ++ [(kyT t, .bl true)]) t))) ∧ chN (chR h n kvs t) = some (.nx (chR h n (kvs ++ [(kyT t, .bl true)]) t)) := by
  have e1 := tC1_val h n kvs t
  have e2 := tC2_val h n kvs t
  have e3 := tC3_val h n kvs t
  rw [decide_eq_true h1] at e1
  rw [decide_eq_true h2] at e2
  rw [hn] at e3
  have e4 := pC_val h n kvs t hk hn
  constructor
  · simp only [chB, sqX, ifX, liftX, nxX, e1, e2, e3, e4, Option.bind_some, Bool.not_true, Bool.false_eq_true, if_false, Option.map_some]
  · simp only [chN, s_seqF, s_ifS, s_nxF, e1, e2, e3, e4, Option.bind_some, Bool.not_true, Bool.false_eq_true, if_false]
theorem ch_bad (hb : ¬ gR n t ∨ ¬ gM t.2.2 ∨ (kvs.any fun kv => decide (kv.1 = kyT t)) = true) : chB (chR h n kvs t) = some (.ex "NoHouse") := by
  have e1 := tC1_val h n kvs t
  have e2 := tC2_val h n kvs t
  have e3 := tC3_val h n kvs t
  by_cases h1 : gR n t
  · rw [decide_eq_true h1] at e1
    by_cases h2 : gM t.2.2
    · rw [decide_eq_true h2] at e2
      have h3 : (kvs.any fun kv => decide (kv.1 = kyT t)) = true := by
        rcases hb with z | z | z
        · exact absurd h1 z
        · exact absurd h2 z
        · exact z
      rw [h3] at e3
      simp only [chB, sqX, ifX, liftX, nxX, exX, e1, e2, e3, Option.bind_some, Bool.not_true, Bool.false_eq_true, if_false, if_true]
    · rw [decide_eq_false h2] at e2
      simp only [chB, sqX, ifX, liftX, nxX, exX, e1, e2, Option.bind_some, Bool.not_true, Bool.not_false, Bool.false_eq_true, if_false, if_true]
  · rw [decide_eq_false h1] at e1
    simp only [chB, sqX, ifX, liftX, nxX, exX, e1, Option.bind_some, Bool.not_false, if_true]
end
noncomputable def γ3 : FG := (tupG 3 (consG (nameG 3) (consG (nameG 4) (consG (nameG 5) nilG))))
theorem γ3_val (h : FL.Slot) (n : Int) (kvs : List (List Key × D)) (t : T3) (s3 s4 s5 : FL.Slot) : γ3 (tD t) [h, .fr (.int n), .oT kvs, s3, s4, s5] = some (chR h n kvs t) := by
  simp only [γ3, tD, s_tupG, s_consG, s_nameG, s_nilG, List.length_cons, List.length_nil, Nat.reduceAdd, if_true, List.set_cons_succ, List.set_cons_zero, Option.bind_some]
theorem any_key {kvs : List (List Key × D)} {k : List Key} : (kvs.any fun kv => decide (kv.1 = k)) = true ↔ k ∈ kvs.map (·.1) := by
  rw [List.any_eq_true]
  constructor
  · rintro ⟨x, hx, e⟩
    exact List.mem_map.mpr ⟨x, hx, by simpa using e⟩
  · intro hx
    obtain ⟨x, hx, e⟩ := List.mem_map.mp hx
    exact ⟨x, hx, by simpa using e⟩
theorem any_nkey {kvs : List (List Key × D)} {k : List Key} (h : k ∉ kvs.map (·.1)) : (kvs.any fun kv => decide (kv.1 = k)) = false := by
  cases e : kvs.any fun kv => decide (kv.1 = k) with
  | false => rfl
  | true => exact absurd (any_key.mp e) h
theorem ch_pass (h : FL.Slot) (n : Int) : ∀ (ts : List T3) (rest : List D) (kvs : List (List Key × D)) (s3 s4 s5 : FL.Slot), (∀ t ∈ ts, gR n t ∧ gM t.2.2) → (kvs.map (·.1) ++ ts.map kyT).Nodup → kvs.length + ts.length ≤ 500 →
    ∃ (kvs' : List (List Key × D)) (r3 r4 r5 : FL.Slot), kvs'.map (·.1) = kvs.map (·.1) ++ ts.map kyT ∧ kvs'.length = kvs.length + ts.length ∧
      loopX γ3 chB (ts.map tD ++ rest) [h, .fr (.int n), .oT kvs, s3, s4, s5] = loopX γ3 chB rest [h, .fr (.int n), .oT kvs', r3, r4, r5] ∧
      loopF γ3 chN (ts.map tD ++ rest) [h, .fr (.int n), .oT kvs, s3, s4, s5] = loopF γ3 chN rest [h, .fr (.int n), .oT kvs', r3, r4, r5]
  | [], rest, kvs, s3, s4, s5, hg, hn, hl => ⟨kvs, s3, s4, s5, by simp, rfl, rfl, rfl⟩
  | t :: ts, rest, kvs, s3, s4, s5, hg, hn, hl => by
    rw [List.length_cons] at hl
    obtain ⟨h1, h2⟩ := hg t List.mem_cons_self
    have hk : kyT t ∉ kvs.map (·.1) := fun z => by
      rw [List.map_cons, List.nodup_append] at hn
      exact hn.2.2 _ z _ List.mem_cons_self rfl
    obtain ⟨c1, c2⟩ := ch_ok h n kvs t h1 h2 (any_nkey hk) (by omega)
    obtain ⟨kvs', r3, r4, r5, m1, m2, e1, e2⟩ := ch_pass h n ts rest (kvs ++ [(kyT t, .bl true)]) (.fr (.int t.1)) (.fr (.int t.2.1)) (.fr (.int t.2.2)) (fun u hu => hg u (List.mem_cons_of_mem _ hu)) (by simpa using hn) (by simp; omega)
    refine ⟨kvs', r3, r4, r5, by rw [m1]; simp, by rw [m2]; simp; omega, ?_, ?_⟩
    · rw [← e1, List.map_cons, List.cons_append, loopX, γ3_val, Option.bind_some, c1, Option.bind_some]
    · rw [← e2, List.map_cons, List.cons_append, loopF, γ3_val, Option.bind_some, c2, Option.bind_some]
theorem ch_fail (h : FL.Slot) (n : Int) {pre : List T3} {t : T3} {post : List D} (s3 s4 s5 : FL.Slot) (hg : ∀ t ∈ pre, gR n t ∧ gM t.2.2) (hn : (pre.map kyT).Nodup) (hl : pre.length ≤ 500) (hb : ¬ gR n t ∨ ¬ gM t.2.2 ∨ kyT t ∈ pre.map kyT) :
    loopX γ3 chB (pre.map tD ++ tD t :: post) [h, .fr (.int n), .oT [], s3, s4, s5] = some (.ex "NoHouse") := by
  obtain ⟨kvs, r3, r4, r5, m1, m2, e1, _⟩ := ch_pass h n pre (tD t :: post) [] s3 s4 s5 hg (by simpa using hn) (by simpa using hl)
  have hb' : ¬ gR n t ∨ ¬ gM t.2.2 ∨ (kvs.any fun kv => decide (kv.1 = kyT t)) = true := hb.imp id fun z => z.imp id fun z => any_key.mpr (by rw [m1]; simpa using z)
  rw [e1, loopX, γ3_val, Option.bind_some, ch_bad h n kvs t hb', Option.bind_some]
theorem len6 : lenD [.str "abcdef"] = some (.int 6) := by
  have : (Str.ofString "abcdef").length = 6 := by decide +kernel
  simp [lenD, this]
  exact szl (by decide)
def GoodH (n : Int) (ts : List T3) : Prop := (∀ t ∈ ts, gR n t ∧ gM t.2.2) ∧ (ts.map kyT).Nodup
theorem gx_step {n : Int} {ds : List D} {o : OutX} (h1 : 1 ≤ n) (h6 : n ≤ 6) (e : loopX γ3 chB ds [.fr (.tup [.int n, .lst ds]), .fr (.int n), .oT [], .no, .no, .no] = some o) : gx_check_house [.tup [.int n, .lst ds]] = outX (some o) := by
  have i0 : ixD (.tup [.int n, .lst ds]) (.int 0) = some (.int n) := ix0
  have i1 : ixD (.tup [.int n, .lst ds]) (.int 1) = some (.lst ds) := ix1
  have c : (notT (blF (chainF leD leD (cF (.int 1)) (vF 1) (appF lenD (consA (cF (.str "abcdef")) nilA))))) [.fr (.tup [.int n, .lst ds]), .fr (.int n), .no, .no, .no, .no] = some false := by
    simp only [s_notT, s_blF, s_chainF, s_cF, s_vF, s_appF, s_consA, s_nilA, List.getElem?_cons_succ, List.getElem?_cons_zero, Option.bind_some, s_le, len6]
    simp [h1, h6]
  unfold γ3 chB tC1 tC2 tC3 pC at e
  have sq : seqOfX (.lst ds) = some ds := rfl
  simp only [gx_check_house, denX, G_check_house, s_startR, List.map_cons, List.map_nil, List.length_cons, List.length_nil, Nat.reduceAdd, Nat.reduceSub, List.replicate, List.cons_append, List.nil_append, sqX, liftX, s_asgF, s_bind2, s_vF, s_cF, List.getElem?_cons_zero, List.getElem?_cons_succ, Option.bind_some, Option.map_some, i0, List.set_cons_succ, List.set_cons_zero, ifX, c, Bool.false_eq_true, if_false, nxX, s_dnewF, forX, s_seqX, i1, sq]
  rw [e]
theorem chk_good {n : Int} {ts : List T3} (h1 : 1 ≤ n) (h6 : n ≤ 6) (hg : GoodH n ts) (hl : ts.length ≤ 200) : gx_check_house [.tup [.int n, .lst (ts.map tD)]] = some (.v .non) := by
  obtain ⟨kvs, r3, r4, r5, _, _, e, _⟩ := ch_pass (.fr (.tup [.int n, .lst (ts.map tD)])) n ts [] [] .no .no .no hg.1 (by simpa using hg.2) (by simp; omega)
  rw [List.append_nil] at e
  exact gx_step h1 h6 e
theorem chk_bad {n : Int} {ts : List T3} (h1 : 1 ≤ n) (h6 : n ≤ 6) (hg : ¬ GoodH n ts) (hl : ts.length ≤ 200) : gx_check_house [.tup [.int n, .lst (ts.map tD)]] = some (.ex "NoHouse") := by
  refine (gx_step h1 h6 (o := .ex "NoHouse") ?_).trans rfl
  -- the longest good beginning
  have key : ∀ (post pre : List T3), ts = pre ++ post → GoodH n pre → loopX γ3 chB (ts.map tD) [.fr (.tup [.int n, .lst (ts.map tD)]), .fr (.int n), .oT [], .no, .no, .no] = some (.ex "NoHouse") := by
    intro post
    induction post with
    | nil => intro pre e g; rw [List.append_nil] at e; subst e; exact absurd g hg
    | cons t post ih =>
      intro pre e g
      by_cases c : (gR n t ∧ gM t.2.2) ∧ kyT t ∉ pre.map kyT
      · refine ih (pre ++ [t]) (by rw [e]; simp) ⟨fun u hu => ?_, ?_⟩
        · rcases List.mem_append.mp hu with z | z
          · exact g.1 u z
          · rw [List.mem_singleton.mp z]; exact c.1
        · rw [List.map_append, List.nodup_append]
          refine ⟨g.2, by simp, fun a ha b hb => ?_⟩
          have eb : b = kyT t := by simpa using hb
          subst eb
          rintro rfl
          exact c.2 ha
      · have hb : ¬ gR n t ∨ ¬ gM t.2.2 ∨ kyT t ∈ pre.map kyT := by
          by_cases x1 : gR n t
          · by_cases x2 : gM t.2.2
            · exact .inr (.inr (Classical.byContradiction fun z => c ⟨⟨x1, x2⟩, z⟩))
            · exact .inr (.inl x2)
          · exact .inl x1
        have hlp : pre.length ≤ 200 := by rw [e, List.length_append] at hl; omega
        have := ch_fail (.fr (.tup [.int n, .lst (ts.map tD)])) n (pre := pre) (t := t) (post := post.map tD) .no .no .no g.1 g.2 (by omega) hb
        rw [← List.map_cons, ← List.map_append, ← e] at this
        exact this
  exact key ts [] rfl ⟨(fun u hu => by cases hu), by simp⟩
theorem GoodH.perm {n : Int} {ts us : List T3} (h : ts.Perm us) (g : GoodH n ts) : GoodH n us := ⟨fun t ht => g.1 t (h.mem_iff.mpr ht), ((h.map kyT).nodup_iff).mp g.2⟩
theorem litB : cp " " = [32] := by rw [show cp " " = _ from PyProof.Rows.signs_ofString " "]; rfl
theorem lit_B : (" " : Str) = ⟨#[32]⟩ := cp_ext litB
theorem lit_E : ("" : Str) = tx [] := cp_ext (by rw [lit0, cp_tx])
def wlGo : List Nat → List Nat → List (List Nat)
  | last, [] => [last]
  | last, c :: cs => if c = 32 then last :: wlGo [] cs else wlGo (last ++ [c]) cs
def joinB : List (List Nat) → List Nat
  | [] => []
  | [x] => x
  | x :: y :: r => x ++ 32 :: joinB (y :: r)
theorem wl_part : ∀ (p last rest : List Nat), 32 ∉ p → wlGo last (p ++ rest) = wlGo (last ++ p) rest
  | [], last, rest, _ => by simp
  | c :: p, last, rest, h => by
    have hc : c ≠ 32 := fun e => h (by simp [e])
    rw [List.cons_append, wlGo, if_neg hc, wl_part p _ rest (fun m => h (List.mem_cons_of_mem _ m))]
    simp
theorem wl_join : ∀ (ps : List (List Nat)), ps ≠ [] → (∀ p ∈ ps, 32 ∉ p) → wlGo [] (joinB ps) = ps
  | [], h, _ => absurd rfl h
  | [x], _, hf => by
    have := wl_part x [] [] (hf x (by simp))
    rw [List.append_nil] at this
    show wlGo [] x = [x]
    rw [this]; rfl
  | x :: y :: r, _, hf => by
    show wlGo [] (x ++ 32 :: joinB (y :: r)) = _
    rw [wl_part x [] _ (hf x (by simp)), wlGo, if_pos rfl, wl_join (y :: r) (by simp) (fun p hp => hf p (List.mem_cons_of_mem _ hp))]
    simp
theorem cp_join : ∀ ts : List Str, cp (Str.join " " ts) = joinB (ts.map cp)
  | [] => rfl
  | [x] => rfl
  | x :: y :: r => by
    show cp (x ++ " " ++ Str.join " " (y :: r)) = _
    rw [cp_app, cp_app, cp_join (y :: r), litB]
    simp [joinB]
def wds (z : Str) : List Str := Txt.split z " "
theorem wds_ne (z : Str) : wds z ≠ [] := fun e => by
  have := PyProof.Rows.split_pos z " "
  rw [show Txt.split z " " = [] from e] at this
  exact absurd this (by simp)
theorem wds_free (z : Str) : ∀ p ∈ wds z, 32 ∉ cp p := by
  unfold wds
  rw [lit_B]
  exact StrLaws.split_free z 32
theorem wds_wl (z : Str) : (wds z).map cp = wlGo [] (cp z) := by
  have h1 : Str.join " " (wds z) = z := StrLaws.join_split z " "
  have e : cp z = joinB ((wds z).map cp) := by rw [← cp_join, h1]
  rw [e, wl_join _ (fun x => wds_ne z (List.map_eq_nil_iff.mp x)) (fun p hp => by
    obtain ⟨t, ht, rfl⟩ := List.mem_map.mp hp
    exact wds_free z t ht)]
theorem sp1 : 1 ≤ (" " : Str).length := by rw [cp_len, litB]; decide
theorem wds_weight (z : Str) : ((wds z).map fun t => (cp t).length).sum + (wds z).length ≤ (cp z).length + 1 := by
  have := PyProof.Rows.split_weight z " " sp1
  rw [cp_len] at this
  rw [show (fun t : Str => (cp t).length) = fun t => t.length from funext fun t => (cp_len t).symm]
  exact this
theorem wds_len (z : Str) : (wds z).length ≤ (cp z).length + 1 := by have := wds_weight z; omega
theorem sum_mem {α : Type} (φ : α → Nat) : ∀ {l : List α} {x : α}, x ∈ l → φ x ≤ (l.map φ).sum
  | a :: l, x, h => by
    rw [List.map_cons, List.sum_cons]
    rcases List.mem_cons.mp h with rfl | h
    · omega
    · have := sum_mem φ h; omega
theorem wds_each {z : Str} {t : Str} (h : t ∈ wds z) : (cp t).length ≤ (cp z).length + 1 := by
  have := wds_weight z
  have := sum_mem (fun t => (cp t).length) h
  omega
theorem split_ok {z : Str} (hz : (cp z).length ≤ 300) : SplitOk z " " := by
  have hl := wds_len z
  refine ⟨by rw [cp_len, litB]; rfl, by rw [cp_len]; exact sz1 (by omega), ?_, sz1 (by show (wds z).length ≤ 900; omega)⟩
  rw [PyProof.Rows.len_partsBetween]
  exact sz1 (by have := StrLaws.occ_length_le z " " 0 z.length (z.length + 1); have := cp_len z; omega)
theorem neg1 {α : Type} (pre : List α) (x : α) : ixN (pre ++ [x]).length (-1) = some pre.length := by
  unfold ixN
  rw [if_neg (by decide), if_pos (by simp; omega)]
  simp
  omega
theorem atm1 {α : Type} (pre : List α) (x : α) : atI (pre ++ [x]) (-1) = some x := by
  unfold atI
  rw [neg1]
  simp
theorem words_loop (z : FL.Slot) : ∀ (cs : List Nat) (pre : List D) (last : List Nat) (s : FL.Slot), pre.length + cs.length ≤ 600 → last.length + cs.length ≤ 600 →
    ∃ s', loopF (nameG 2) (ifS (blF (bind2 eqF (vF 2) (cF (.str " ")))) (appendF 1 (cF (.str ""))) (setIF 1 (bind1 negD (cF (.int 1))) (bind2 addX (bind2 ixD (vR 1) (bind1 negD (cF (.int 1)))) (vF 2)))) (cs.map fun c => D.str ⟨#[c]⟩) [z, .ol (pre ++ [.str (tx last)]), s] =
      some (.nx [z, .ol (pre ++ (wlGo last cs).map fun w => D.str (tx w)), s'])
  | [], pre, last, s, _, _ => ⟨s, rfl⟩
  | c :: cs, pre, last, s, h1, h2 => by
    rw [List.length_cons] at h1 h2
    have t : blF (bind2 eqF (vF 2) (cF (.str " "))) [z, .ol (pre ++ [.str (tx last)]), .fr (.str ⟨#[c]⟩)] = some (decide (c = 32)) := by
      simp only [s_blF, s_bind2, s_vF, s_cF, List.getElem?_cons_zero, List.getElem?_cons_succ, Option.bind_some, eqs, litB, cp_one]
      congr 1
      apply decide_eq_decide.mpr
      simp
    by_cases hc : c = 32
    · obtain ⟨s', e⟩ := words_loop z cs (pre ++ [.str (tx last)]) [] (.fr (.str ⟨#[c]⟩)) (by simp; omega) (by simp; omega)
      refine ⟨s', ?_⟩
      have st : ifS (blF (bind2 eqF (vF 2) (cF (.str " ")))) (appendF 1 (cF (.str ""))) (setIF 1 (bind1 negD (cF (.int 1))) (bind2 addX (bind2 ixD (vR 1) (bind1 negD (cF (.int 1)))) (vF 2))) [z, .ol (pre ++ [.str (tx last)]), .fr (.str ⟨#[c]⟩)] = some (.nx [z, .ol (pre ++ [.str (tx last)] ++ [.str (tx [])]), .fr (.str ⟨#[c]⟩)]) := by
        rw [ifS_t (by rw [t, decide_eq_true hc])]
        simp only [s_appendF, s_cF, List.getElem?_cons_zero, List.getElem?_cons_succ, Option.bind_some, List.length_append, List.length_cons, List.length_nil, List.set_cons_succ, List.set_cons_zero, ← lit_E]
        rw [if_pos (small1000 (by omega))]
      rw [List.map_cons]
      unfold loopF
      simp only [s_nameG, List.set_cons_succ, List.set_cons_zero, Option.bind_some, st]
      have w32 : wlGo last (c :: cs) = last :: wlGo [] cs := by rw [wlGo, if_pos hc]
      rw [e, w32]
      simp
    · obtain ⟨s', e⟩ := words_loop z cs pre (last ++ [c]) (.fr (.str ⟨#[c]⟩)) (by omega) (by simp; omega)
      refine ⟨s', ?_⟩
      have ca : tx last ++ ⟨#[c]⟩ = tx (last ++ [c]) := cp_ext (by rw [cp_app, cp_tx, cp_tx, cp_one])
      have ai : ixD (.lst (pre ++ [.str (tx last)])) (.int (-1)) = some (.str (tx last)) := atm1 pre _
      have ad : addX (.str (tx last)) (.str ⟨#[c]⟩) = some (.str (tx (last ++ [c]))) := by rw [add_str (by rw [cp_tx, cp_one]; simp; omega), ca]
      have st : ifS (blF (bind2 eqF (vF 2) (cF (.str " ")))) (appendF 1 (cF (.str ""))) (setIF 1 (bind1 negD (cF (.int 1))) (bind2 addX (bind2 ixD (vR 1) (bind1 negD (cF (.int 1)))) (vF 2))) [z, .ol (pre ++ [.str (tx last)]), .fr (.str ⟨#[c]⟩)] = some (.nx [z, .ol (pre ++ [.str (tx (last ++ [c]))]), .fr (.str ⟨#[c]⟩)]) := by
        rw [ifS_f (by rw [t, decide_eq_false hc])]
        simp only [s_setIF, s_bind2, s_bind1, s_cF, s_vR, s_vF, List.getElem?_cons_zero, List.getElem?_cons_succ, Option.bind_some, s_neg, ai, ad, neg1, List.set_cons_succ, List.set_cons_zero]
        simp
      rw [List.map_cons]
      unfold loopF
      simp only [s_nameG, List.set_cons_succ, List.set_cons_zero, Option.bind_some, st]
      have w32 : wlGo last (c :: cs) = wlGo (last ++ [c]) cs := by rw [wlGo, if_neg hc]
      rw [e, w32]
theorem words_val {z : Str} (hz : (cp z).length ≤ 300) : g_l_words [.str z] = some (.lst ((wds z).map D.str)) := by
  obtain ⟨s', e⟩ := words_loop (.fr (.str z)) (cp z) [] [] .no (by simp only [List.length_nil]; omega) (by simp only [List.length_nil]; omega)
  show outD (F_l_words [.fr (.str z), .no, .no]) = _
  unfold F_l_words
  have ew : (wlGo [] (cp z)).map (fun w => D.str (tx w)) = (wds z).map D.str := by
    rw [← wds_wl, List.map_map]
    refine List.map_congr_left fun t _ => ?_
    show D.str (tx (cp t)) = _
    rw [tx_cp]
  rw [seq_nx (ρ' := [.fr (.str z), .ol [.str (tx [])], .no]) (by
      simp only [s_asgN, s_lstF, s_consA, s_nilA, s_cF, Option.bind_some, List.length_cons, List.length_nil, List.set_cons_succ, List.set_cons_zero, ← lit_E]
      rw [if_pos (sz1 (by decide))]
      rfl),
    seq_nx (ρ' := [.fr (.str z), .ol ((wds z).map D.str), s']) (by
      rw [s_forF, s_seqX]
      show loopF _ _ ((cp z).map fun c => D.str ⟨#[c]⟩) _ = _
      rw [← ew]
      exact e)]
  rfl
open GH
theorem litS : cp "123456" = [49, 50, 51, 52, 53, 54] := by rw [show cp "123456" = _ from PyProof.Rows.signs_ofString "123456"]; rfl
theorem litT : cp "3456" = [51, 52, 53, 54] := by rw [show cp "3456" = _ from PyProof.Rows.signs_ofString "3456"]; rfl
theorem litN : cp "*" = [42] := by rw [show cp "*" = _ from PyProof.Rows.signs_ofString "*"]; rfl
theorem litTN : cp "3456*" = [51, 52, 53, 54, 42] := by rw [show cp "3456*" = _ from PyProof.Rows.signs_ofString "3456*"]; rfl
def isF (c : Nat) : Bool := decide ((51 ≤ c ∧ c ≤ 54) ∨ c = 42)
theorem isF_iff {c : Nat} : isF c = true ↔ (51 ≤ c ∧ c ≤ 54) ∨ c = 42 := by unfold isF; exact decide_eq_true_iff
def mF (c : Nat) : Int := if c = 42 then 0 else (c : Int) - 48
def vW : List Nat → Bool
  | [a, b, c] => isL a && (isL b && isF c)
  | _ => false
def trp : List Nat → T3
  | [a, b, c] => ((a : Int) - 97, (b : Int) - 97, mF c)
  | _ => (0, 0, 0)
theorem vW_ex {cs : List Nat} (h : vW cs = true) : ∃ a b c, cs = [a, b, c] ∧ isL a = true ∧ isL b = true ∧ isF c = true := by
  match cs, h with
  | [a, b, c], h =>
    have h : (isL a && (isL b && isF c)) = true := h
    rw [Bool.and_eq_true, Bool.and_eq_true] at h
    exact ⟨a, b, c, rfl, h.1, h.2.1, h.2.2⟩
theorem ixS {z : Str} {k c : Nat} (h : (cp z)[k]? = some c) (hz : (cp z).length ≤ 900) : ixD (.str z) (.int (k : Int)) = some (.str ⟨#[c]⟩) := by
  show (if z.length ≤ sizeLine then (atI (cp z) (k : Int)).map fun c => D.str ⟨#[c]⟩ else none) = _
  rw [if_pos (by rw [cp_len]; exact sz1 (by omega)), atI_nat h]
  rfl
theorem ix3 {z : Str} {a b c : Nat} (h : cp z = [a, b, c]) : ixD (.str z) (.int 0) = some (.str ⟨#[a]⟩) ∧ ixD (.str z) (.int 1) = some (.str ⟨#[b]⟩) ∧ ixD (.str z) (.int 2) = some (.str ⟨#[c]⟩) := by
  have hz : (cp z).length ≤ 900 := by rw [h]; simp
  exact ⟨ixS (k := 0) (by rw [h]; rfl) hz, ixS (k := 1) (by rw [h]; rfl) hz, ixS (k := 2) (by rw [h]; rfl) hz⟩
theorem tn_app : ("3456" : Str) ++ "*" = "3456*" := cp_ext (by rw [cp_app, litT, litN, litTN]; rfl)
theorem add_tn : addX (.str "3456") (.str "*") = some (.str "3456*") := by rw [add_str (by rw [litT, litN]; decide), tn_app]
theorem memTN {c : Nat} : decide (c ∈ cp "3456*") = isF c := by
  unfold isF
  rw [litTN]
  apply decide_eq_decide.mpr
  simp only [List.mem_cons, List.not_mem_nil, or_false]
  omega
theorem len3 {cs : List Nat} (h : ¬ cs.length = 3) : vW cs = false := by
  match cs, h with
  | [], _ => rfl
  | [_], _ => rfl
  | [_, _], _ => rfl
  | [_, _, _], h => exact absurd rfl h
  | _ :: _ :: _ :: _ :: _, _ => rfl
theorem ex3 {cs : List Nat} (h : cs.length = 3) : ∃ a b c, cs = [a, b, c] := by
  match cs, h with
  | [a, b, c], _ => exact ⟨a, b, c, rfl⟩
theorem itt_val {t : Str} (ht : (cp t).length ≤ 400) : g_is_turn_text [.str t] = some (.bl (vW (cp t))) := by
  have le := len_str (z := t) (by omega)
  show outD (F_is_turn_text [.fr (.str t)]) = _
  unfold F_is_turn_text
  have tt : blF (bind2 neF (appF lenD (consA (vF 0) nilA)) (cF (.int 3))) [.fr (.str t)] = some (!decide ((cp t).length = 3)) := by
    simp only [s_blF, s_bind2, s_appF, s_consA, s_nilA, s_vF, s_cF, List.getElem?_cons_zero, Option.bind_some, le, s_nei]
    congr 2
    apply decide_eq_decide.mpr
    omega
  by_cases h : (cp t).length = 3
  · obtain ⟨a, b, c, e⟩ := ex3 h
    obtain ⟨i0, i1, i2⟩ := ix3 e
    rw [seq_nx (ρ' := [.fr (.str t)]) (by rw [ifS_f (by rw [tt, decide_eq_true h]; rfl)]; rfl), e]
    simp only [s_retF, s_andV, s_bind2, s_vF, s_cF, List.getElem?_cons_zero, Option.bind_some, i0, i1, i2, ins_p, mem6, add_tn, memTN, vW]
    cases isL a <;> cases isL b <;> rfl
  · rw [seq_rt (d := .bl false) (by rw [ifS_t (by rw [tt, decide_eq_false h]; rfl)]; rfl), len3 h]
    rfl
theorem int_fig {c : Nat} (h1 : 48 ≤ c) (h2 : c ≤ 57) : intX [.str ⟨#[c]⟩] = some (.int ((c : Int) - 48)) := by
  have e : cp ⟨#[c]⟩ = dg (c - 48) := by rw [dg_lt (by omega), cp_one]; congr 1; omega
  rw [int_dg _ (c - 48) e (by rw [← e, cp_one]; simp)]
  congr 2
  omega
theorem rt_val {t : Str} (h : vW (cp t) = true) : g_read_turn [.str t] = some (tD (trp (cp t))) := by
  obtain ⟨a, b, c, e, ha, hb, hc⟩ := vW_ex h
  obtain ⟨i0, i1, i2⟩ := ix3 e
  show outD (F_read_turn [.fr (.str t), .no]) = _
  unfold F_read_turn
  have m : ifF (blF (bind2 eqF (bind2 ixD (vF 0) (cF (.int 2))) (cF (.str "*")))) (cF (.int 0)) (appF intX (consA (bind2 ixD (vF 0) (cF (.int 2))) nilA)) [.fr (.str t), .no] = some (.int (mF c)) := by
    simp only [s_ifF, s_blF, s_bind2, s_appF, s_consA, s_nilA, s_vF, s_cF, List.getElem?_cons_zero, Option.bind_some, i2, eqs, cp_one, litN]
    unfold mF
    by_cases q : c = 42
    · simp [q]
    · have hc' := isF_iff.mp hc
      simp only [List.cons.injEq, and_true, q, decide_false, Bool.false_eq_true, if_false]
      exact int_fig (by omega) (by omega)
  rw [seq_nx (ρ' := [.fr (.str t), .fr (.int (mF c))]) (by rw [s_asgF, m]; rfl), e]
  simp only [s_retF, s_tupF, s_consA, s_nilA, s_bind2, s_vF, s_cF, List.getElem?_cons_zero, List.getElem?_cons_succ, Option.bind_some, i0, i1, idx6 ha, idx6 hb, List.length_cons, List.length_nil, Nat.reduceAdd, show (3 : Nat) ≤ sizeLine from sz1 (by decide), if_true, s_outR]
  rfl
theorem at5 {i c : Nat} : ([51, 52, 53, 54, 42] : List Nat)[i]? = some c ↔ (i < 4 ∧ c = 51 + i) ∨ (i = 4 ∧ c = 42) := by
  rcases i with _ | _ | _ | _ | _ | i <;> simp <;> omega
theorem fnd5 (c : Nat) : Txt.find "3456*" ⟨#[c]⟩ = if isF c = true then (if c = 42 then 4 else (c : Int) - 51) else -1 := by
  rcases PyProof.Rows.find_whole "3456*" ⟨#[c]⟩ with ⟨h0, h1⟩ | ⟨i, h0, h1, _⟩
  · have : ¬ isF c = true := fun h => by
      have h := isF_iff.mp h
      refine absurd ((StrLaws.subAt_one "3456*" c (if c = 42 then 4 else c - 51)).mpr ?_) (h1 _)
      show (cp "3456*")[(if c = 42 then 4 else c - 51)]? = some c
      rw [litTN, at5]
      split <;> omega
    rw [h0, if_neg this]
  · have hi : (cp "3456*")[i]? = some c := (StrLaws.subAt_one "3456*" c i).mp h1
    rw [litTN, at5] at hi
    have : isF c = true := isF_iff.mpr (by omega)
    rw [h0, if_pos this]
    split <;> omega
theorem pick5 {c : Nat} (h : isF c = true) : ixD (.lst [.int 3, .int 4, .int 5, .int 6, .int 0]) (.int (Txt.find "3456*" ⟨#[c]⟩)) = some (.int (mF c)) := by
  rw [fnd5, if_pos h]
  unfold mF
  have h' := isF_iff.mp h
  by_cases q : c = 42
  · rw [if_pos q, if_pos q]; exact atI_nat (j := 4) rfl
  · rw [if_neg q, if_neg q]
    have : c = 51 ∨ c = 52 ∨ c = 53 ∨ c = 54 := by omega
    rcases this with rfl | rfl | rfl | rfl
    · exact atI_nat (j := 0) rfl
    · exact atI_nat (j := 1) rfl
    · exact atI_nat (j := 2) rfl
    · exact atI_nat (j := 3) rfl
noncomputable def lkT : FT := (orT (blF (bind2 neF (appF lenD (consA (vF 3) nilA)) (cF (.int 3)))) (orT (blF (bind2 ltD (bind2 (ttD Txt.find) (cF (.str "abcdef")) (bind2 ixD (vF 3) (cF (.int 0)))) (cF (.int 0)))) (orT (blF (bind2 ltD (bind2 (ttD Txt.find) (cF (.str "abcdef")) (bind2 ixD (vF 3) (cF (.int 1)))) (cF (.int 0)))) (blF (bind2 ltD (bind2 (ttD Txt.find) (cF (.str "3456*")) (bind2 ixD (vF 3) (cF (.int 2)))) (cF (.int 0)))))))
theorem neg_find (c : Nat) : decide (Txt.find "abcdef" ⟨#[c]⟩ < 0) = !isL c := by
  rw [fnd]
  cases h : isL c with
  | true => have := isL_iff.mp h; rw [if_pos rfl]; simp; omega
  | false => rw [if_neg (by simp)]; rfl
theorem neg_find5 (c : Nat) : decide (Txt.find "3456*" ⟨#[c]⟩ < 0) = !isF c := by
  rw [fnd5]
  cases h : isF c with
  | true =>
    have := isF_iff.mp h
    rw [if_pos rfl]
    simp
    split <;> omega
  | false => rw [if_neg (by simp)]; rfl
theorem lkT_val {t : Str} (ht : (cp t).length ≤ 400) (a0 a1 a2 a4 a5 a6 : FL.Slot) : lkT [a0, a1, a2, .fr (.str t), a4, a5, a6] = some (!vW (cp t)) := by
  have le := len_str (z := t) (by omega)
  unfold lkT
  have tt : blF (bind2 neF (appF lenD (consA (vF 3) nilA)) (cF (.int 3))) [a0, a1, a2, .fr (.str t), a4, a5, a6] = some (!decide ((cp t).length = 3)) := by
    simp only [s_blF, s_bind2, s_appF, s_consA, s_nilA, s_vF, s_cF, List.getElem?_cons_zero, List.getElem?_cons_succ, Option.bind_some, le, s_nei]
    congr 2
    apply decide_eq_decide.mpr
    omega
  rw [s_orT, tt, Option.bind_some]
  by_cases h : (cp t).length = 3
  · obtain ⟨a, b, c, e⟩ := ex3 h
    obtain ⟨i0, i1, i2⟩ := ix3 e
    rw [decide_eq_true h, if_neg (by simp)]
    simp only [s_orT, s_blF, s_bind2, s_vF, s_cF, List.getElem?_cons_zero, List.getElem?_cons_succ, Option.bind_some, i0, i1, i2, s_ttD, s_lt, neg_find, neg_find5]
    rw [e]
    show _ = some (!(isL a && (isL b && isF c)))
    cases isL a <;> cases isL b <;> rfl
  · rw [decide_eq_false h, len3 h]; rfl
noncomputable def lkV : FE := (tupF (consA (bind2 (ttD Txt.find) (cF (.str "abcdef")) (bind2 ixD (vF 3) (cF (.int 0)))) (consA (bind2 (ttD Txt.find) (cF (.str "abcdef")) (bind2 ixD (vF 3) (cF (.int 1)))) (consA (bind2 ixD (mapLst (lstF (consA (cF (.int 3)) (consA (cF (.int 4)) (consA (cF (.int 5)) (consA (cF (.int 6)) (consA (cF (.int 0)) nilA))))))) (bind2 (ttD Txt.find) (cF (.str "3456*")) (bind2 ixD (vF 3) (cF (.int 2))))) nilA))))
theorem lkV_val {t : Str} (h : vW (cp t) = true) (a0 a1 a2 a4 a5 a6 : FL.Slot) : lkV [a0, a1, a2, .fr (.str t), a4, a5, a6] = some (tD (trp (cp t))) := by
  obtain ⟨a, b, c, e, ha, hb, hc⟩ := vW_ex h
  obtain ⟨i0, i1, i2⟩ := ix3 e
  unfold lkV
  simp only [s_tupF, s_consA, s_nilA, s_bind2, s_mapLst, s_lstF, s_vF, s_cF, List.getElem?_cons_zero, List.getElem?_cons_succ, Option.bind_some, i0, i1, i2, s_ttD, List.length_cons, List.length_nil, Nat.reduceAdd, show (5 : Nat) ≤ sizeLine from sz1 (by decide), show (3 : Nat) ≤ sizeLine from sz1 (by decide), if_true, Option.map_some, pick5 hc]
  rw [fnd, fnd, if_pos ha, if_pos hb, e]
  rfl
def hd1 : List Nat → Bool
  | [c] => decide (49 ≤ c ∧ c ≤ 54)
  | _ => false
def hdN : List Nat → Int
  | c :: _ => (c : Int) - 48
  | [] => 0
theorem memS {c : Nat} : decide (c ∈ cp "123456") = decide (49 ≤ c ∧ c ≤ 54) := by
  rw [litS]
  apply decide_eq_decide.mpr
  simp only [List.mem_cons, List.not_mem_nil, or_false]
  omega
theorem ixL0 {x : D} {l : List D} : ixD (.lst (x :: l)) (.int 0) = some x := by simp [ixD, atI, ixN]
noncomputable def hdT : FT := orT (blF (bind2 neF (appF lenD (consA (bind2 ixD (vF 1) (cF (.int 0))) nilA)) (cF (.int 1)))) (blF (bind2 (inD true) (bind2 ixD (vF 1) (cF (.int 0))) (cF (.str "123456"))))
theorem hdT_val {ρ : Rho} {t0 : Str} {rest : List Str} (e : ρ[1]? = some (.fr (.lst ((t0 :: rest).map D.str)))) (ht : (cp t0).length ≤ 400) : hdT ρ = some (!hd1 (cp t0)) := by
  have v1 : vF 1 ρ = some (.lst (.str t0 :: rest.map D.str)) := by rw [s_vF, e]; rfl
  have le := len_str (z := t0) (by omega)
  have tt : blF (bind2 neF (appF lenD (consA (bind2 ixD (vF 1) (cF (.int 0))) nilA)) (cF (.int 1))) ρ = some (!decide ((cp t0).length = 1)) := by
    simp only [s_blF, s_bind2, s_appF, s_consA, s_nilA, v1, s_cF, Option.bind_some, ixL0, le, s_nei]
    congr 2
    apply decide_eq_decide.mpr
    omega
  unfold hdT
  rw [s_orT, tt, Option.bind_some]
  by_cases h : (cp t0).length = 1
  · obtain ⟨c, ec⟩ : ∃ c, cp t0 = [c] := by
      match hh : cp t0, h with
      | [c], _ => exact ⟨c, rfl⟩
    have et : t0 = ⟨#[c]⟩ := cp_ext ec
    rw [decide_eq_true h, if_neg (by simp), s_blF, s_bind2, s_bind2, v1]
    simp only [s_cF, Option.bind_some, ixL0]
    rw [ec, et, ins_n, memS]
    rfl
  · rw [decide_eq_false h]
    have : hd1 (cp t0) = false := by
      match hh : cp t0, h with
      | [], _ => rfl
      | [_], h => exact absurd rfl h
      | _ :: _ :: _, _ => rfl
    rw [this]; rfl
theorem hd1_ex {cs : List Nat} (h : hd1 cs = true) : ∃ c, cs = [c] ∧ 49 ≤ c ∧ c ≤ 54 := by
  match cs, h with
  | [c], h => exact ⟨c, rfl, of_decide_eq_true h⟩
theorem hdN_val {t0 : Str} (h : hd1 (cp t0) = true) : intX [.str t0] = some (.int (hdN (cp t0))) ∧ 1 ≤ hdN (cp t0) ∧ hdN (cp t0) ≤ 6 := by
  obtain ⟨c, e, h1, h2⟩ := hd1_ex h
  have et : t0 = ⟨#[c]⟩ := cp_ext e
  rw [e]
  refine ⟨?_, ?_, ?_⟩
  · rw [et]; exact int_fig (by omega) (by omega)
  · show 1 ≤ (c : Int) - 48; omega
  · show (c : Int) - 48 ≤ 6; omega
def l3 (t : T3) : List Int := [t.1, t.2.1, t.2.2]
def t3 : List Int → T3
  | [a, b, c] => (a, b, c)
  | _ => (0, 0, 0)
def srt (ts : List T3) : List T3 := (sortT (ts.map l3)).map t3
theorem t3_l3 (ts : List T3) : (ts.map l3).map t3 = ts := by
  rw [List.map_map]
  exact (List.map_congr_left fun _ _ => rfl).trans (List.map_id ts)
theorem srt_perm (ts : List T3) : (srt ts).Perm ts := by
  have := (sortT_perm (ts.map l3)).map t3
  rw [t3_l3] at this
  exact this
theorem srt_D (ts : List T3) : (sortT (ts.map l3)).map iD = (srt ts).map tD := by
  unfold srt
  rw [List.map_map]
  refine List.map_congr_left fun r hr => ?_
  obtain ⟨t, _, rfl⟩ := List.mem_map.mp ((sortT_perm (ts.map l3)).mem_iff.mp hr)
  rfl
theorem map_l3 (ts : List T3) : ts.map tD = (ts.map l3).map iD := by
  rw [List.map_map]
  exact List.map_congr_left fun _ _ => rfl
theorem sort_val {fa : FA} {ρ : Rho} {ts : List T3} (h : fa ρ = some [.lst (ts.map tD)]) (hl : ts.length < 64) : sortTN fa ρ = some ((srt ts).map tD) := by
  unfold sortTN
  rw [h, Option.bind_some]
  show (intRows (ts.map tD)).bind _ = _
  rw [map_l3, intRows_map, Option.bind_some, if_pos ⟨by rw [List.length_map]; exact hl, fun r hr => by
    obtain ⟨t, _, rfl⟩ := List.mem_map.mp hr
    simp [l3]⟩, srt_D]
def hD (n : Int) (ts : List T3) : D := .tup [.int n, .lst (ts.map tD)]
def allV (ws : List Str) : Bool := ws.all fun t => vW (cp t)
def trs (ws : List Str) : List T3 := ws.map fun t => trp (cp t)
theorem allV_cons {t : Str} {ws : List Str} : allV (t :: ws) = (vW (cp t) && allV ws) := rfl
theorem allV_sum : ∀ {ws : List Str}, allV ws = true → (ws.map fun t => (cp t).length).sum = 3 * ws.length
  | [], _ => rfl
  | t :: ws, h => by
    rw [allV_cons, Bool.and_eq_true] at h
    obtain ⟨a, b, c, e, _⟩ := vW_ex h.1
    rw [List.map_cons, List.sum_cons, allV_sum h.2, e, List.length_cons]
    simp
    omega
theorem few {z t0 : Str} {rest : List Str} (hz : (cp z).length ≤ 250) (e : wds z = t0 :: rest) (h0 : hd1 (cp t0) = true) (ha : allV rest = true) : rest.length < 64 := by
  have w := wds_weight z
  obtain ⟨c, ec, _⟩ := hd1_ex h0
  rw [e, List.map_cons, List.sum_cons, allV_sum ha, ec, List.length_cons] at w
  simp only [List.length_cons, List.length_nil] at w
  omega
section
variable {z t0 : Str} {rest : List Str}
theorem sl_val {ρ : Rho} (v1 : vF 1 ρ = some (.lst ((t0 :: rest).map D.str))) : seqX (sliceX (vF 1) (exP (cF (.int 1))) noP) ρ = some (rest.map D.str) := by
  have c : cutL ((t0 :: rest).map D.str) (some ((1 : Nat) : Int)) none = rest.map D.str := by rw [cut_from _ 1 (by simp)]; rfl
  simp only [s_seqX, s_sliceX, v1, s_exP, s_cF, s_noP, Option.bind_some]
  exact congrArg some c
end
theorem trs_len {rest : List Str} : (trs rest).length = rest.length := List.length_map ..
theorem rd_loop (a0 a1 a3 : FL.Slot) : ∀ (ws : List Str) (s : FL.Slot), (∀ t ∈ ws, (cp t).length ≤ 400) → (allV ws = true → ∃ s', loopX (nameG 2) (ifX (notT (blF (appF g_is_turn_text (consA (vF 2) nilA)))) (exX "NoText") nxX) (ws.map D.str) [a0, a1, s, a3] = some (.o (.nx [a0, a1, s', a3]))) ∧
    (allV ws = false → loopX (nameG 2) (ifX (notT (blF (appF g_is_turn_text (consA (vF 2) nilA)))) (exX "NoText") nxX) (ws.map D.str) [a0, a1, s, a3] = some (.ex "NoText"))
  | [], s, _ => ⟨fun _ => ⟨s, rfl⟩, fun h => by cases h⟩
  | t :: ws, s, hl => by
    obtain ⟨i1, i2⟩ := rd_loop a0 a1 a3 ws (.fr (.str t)) (fun u hu => hl u (List.mem_cons_of_mem _ hu))
    have tt : notT (blF (appF g_is_turn_text (consA (vF 2) nilA))) [a0, a1, .fr (.str t), a3] = some (!vW (cp t)) := by
      simp only [s_notT, s_blF, s_appF, s_consA, s_nilA, s_vF, List.getElem?_cons_zero, List.getElem?_cons_succ, Option.bind_some, itt_val (hl t List.mem_cons_self)]
    cases hv : vW (cp t) with
    | true =>
      have st : ifX (notT (blF (appF g_is_turn_text (consA (vF 2) nilA)))) (exX "NoText") nxX [a0, a1, .fr (.str t), a3] = some (.o (.nx [a0, a1, .fr (.str t), a3])) := by rw [ifX_f (by rw [tt, hv]; rfl)]; rfl
      rw [allV_cons, hv, Bool.true_and, List.map_cons]
      unfold loopX
      simp only [s_nameG, List.set_cons_succ, List.set_cons_zero, Option.bind_some, st]
      exact ⟨i1, i2⟩
    | false =>
      have st : ifX (notT (blF (appF g_is_turn_text (consA (vF 2) nilA)))) (exX "NoText") nxX [a0, a1, .fr (.str t), a3] = some (.ex "NoText") := by rw [ifX_t (by rw [tt, hv]; rfl)]; rfl
      rw [allV_cons, hv, Bool.false_and, List.map_cons]
      unfold loopX
      simp only [s_nameG, List.set_cons_succ, List.set_cons_zero, Option.bind_some, st]
      exact ⟨(fun h => by cases h), fun _ => trivial⟩
section
variable {z t0 : Str} {rest : List Str}
theorem rh_run {r : OutX} (h0 : G_read_house [.fr (.str z), .no, .no, .no] = some r) : gx_read_house [.str z] = outX (some r) := by
  show outX (G_read_house [.fr (.str z), .no, .no, .no]) = _
  rw [h0]
theorem rh_words (hz : (cp z).length ≤ 250) (e : wds z = t0 :: rest) : asgF 1 (mapLst (splitA (vF 0) (cF (.str " ")))) [.fr (.str z), .no, .no, .no] = some (.nx [.fr (.str z), .fr (.lst ((t0 :: rest).map D.str)), .no, .no]) := by
  have : splitA (vF 0) (cF (.str " ")) [.fr (.str z), .no, .no, .no] = some ((t0 :: rest).map D.str) := by
    show (@ite _ (SplitOk z " ") (Classical.propDecidable _) (some ((Txt.split z " ").map D.str)) none) = _
    rw [if_pos (split_ok (by omega)), ← e]; rfl
  rw [s_asgF, s_mapLst, this]; rfl
theorem rh_text (hz : (cp z).length ≤ 250) (e : wds z = t0 :: rest) (h : hd1 (cp t0) = false ∨ allV rest = false) : gx_read_house [.str z] = some (.ex "NoText") := by
  have hw : ∀ t ∈ t0 :: rest, (cp t).length ≤ 400 := fun t ht => by have := wds_each (z := z) (t := t) (by rw [e]; exact ht); omega
  refine (rh_run (r := .ex "NoText") ?_).trans rfl
  unfold G_read_house
  rw [sq1 (liftX_some (rh_words hz e))]
  have hh := hdT_val (ρ := [.fr (.str z), .fr (.lst ((t0 :: rest).map D.str)), .no, .no]) (t0 := t0) (rest := rest) rfl (hw t0 List.mem_cons_self)
  unfold hdT at hh
  cases h0 : hd1 (cp t0) with
  | false => exact sq3 (by rw [ifX_t (by rw [hh, h0]; rfl)]; rfl)
  | true =>
    have ha : allV rest = false := by rcases h with z | z; rw [h0] at z; cases z; exact z
    rw [sq1 (ρ' := [.fr (.str z), .fr (.lst ((t0 :: rest).map D.str)), .no, .no]) (by rw [ifX_f (by rw [hh, h0]; rfl)]; rfl)]
    refine sq3 ?_
    unfold forX
    rw [sl_val (t0 := t0) (rest := rest) rfl]
    exact (rd_loop _ _ _ rest .no (fun u hu => hw u (List.mem_cons_of_mem _ hu))).2 ha
theorem rh_rest (hz : (cp z).length ≤ 250) (e : wds z = t0 :: rest) (h0 : hd1 (cp t0) = true) (ha : allV rest = true) : ∃ s, G_read_house [.fr (.str z), .no, .no, .no] = sqX (callX gx_check_house (consA (vF 3) nilA)) (liftX (retF (vF 3))) [.fr (.str z), .fr (.lst ((t0 :: rest).map D.str)), s, .fr (hD (hdN (cp t0)) (srt (trs rest)))] := by
  have hw : ∀ t ∈ t0 :: rest, (cp t).length ≤ 400 := fun t ht => by have := wds_each (z := z) (t := t) (by rw [e]; exact ht); omega
  have hf := few hz e h0 ha
  obtain ⟨s, es⟩ := (rd_loop (.fr (.str z)) (.fr (.lst ((t0 :: rest).map D.str))) .no rest .no (fun u hu => hw u (List.mem_cons_of_mem _ hu))).1 ha
  refine ⟨s, ?_⟩
  unfold G_read_house
  rw [sq1 (liftX_some (rh_words hz e))]
  have hh := hdT_val (ρ := [.fr (.str z), .fr (.lst ((t0 :: rest).map D.str)), .no, .no]) (t0 := t0) (rest := rest) rfl (hw t0 List.mem_cons_self)
  unfold hdT at hh
  rw [sq1 (ρ' := [.fr (.str z), .fr (.lst ((t0 :: rest).map D.str)), .no, .no]) (by rw [ifX_f (by rw [hh, h0]; rfl)]; rfl),
    sq1 (ρ' := [.fr (.str z), .fr (.lst ((t0 :: rest).map D.str)), s, .no]) (by
      unfold forX
      rw [sl_val (t0 := t0) (rest := rest) rfl]
      exact es)]
  have cc : compF 1 [] (seqX (sliceX (vF 1) (exP (cF (.int 1))) noP)) (nameG 0) ttF (appF g_read_turn (consA (vF 0) nilA)) [.fr (.str z), .fr (.lst ((t0 :: rest).map D.str)), s, .no] = some ((trs rest).map tD) := by
    rw [compF_ok (sl_val (t0 := t0) (rest := rest) rfl) (by rw [List.length_map]; exact sz1 (by omega))]
    unfold trs
    rw [List.map_map]
    show compGo _ _ _ (rest.map D.str) [.no] = _
    refine cmapL rest _ fun t ht => ?_
    have hv : vW (cp t) = true := List.all_eq_true.mp ha t ht
    simp only [s_appF, s_consA, s_nilA, s_vF, List.getElem?_cons_zero, Option.bind_some, rt_val hv]
    rfl
  have so : sortTN (consA (mapLst (compF 1 [] (seqX (sliceX (vF 1) (exP (cF (.int 1))) noP)) (nameG 0) ttF (appF g_read_turn (consA (vF 0) nilA)))) nilA) [.fr (.str z), .fr (.lst ((t0 :: rest).map D.str)), s, .no] = some ((srt (trs rest)).map tD) :=
    sort_val (by rw [s_consA, s_mapLst, cc]; rfl) (by unfold trs; rw [List.length_map]; exact hf)
  have iv : appF intX (consA (bind2 ixD (vF 1) (cF (.int 0))) nilA) [.fr (.str z), .fr (.lst ((t0 :: rest).map D.str)), s, .no] = some (.int (hdN (cp t0))) := by
    simp only [s_appF, s_consA, s_nilA, s_bind2, s_vF, s_cF, List.getElem?_cons_zero, List.getElem?_cons_succ, Option.bind_some, List.map_cons, ixL0, (hdN_val h0).1]
  rw [sq1 (ρ' := [.fr (.str z), .fr (.lst ((t0 :: rest).map D.str)), s, .fr (hD (hdN (cp t0)) (srt (trs rest)))]) (liftX_some (by
    rw [s_asgF, s_tupF, s_consA, iv, Option.bind_some, s_consA, s_mapLst, so]
    simp only [Option.map_some, s_nilA, Option.bind_some, List.length_cons, List.length_nil, Nat.reduceAdd, show (2 : Nat) ≤ sizeLine from sz1 (by decide), if_true, List.set_cons_succ, List.set_cons_zero]
    rfl))]
theorem rh_house (hz : (cp z).length ≤ 250) (e : wds z = t0 :: rest) (h0 : hd1 (cp t0) = true) (ha : allV rest = true) (hg : ¬ GoodH (hdN (cp t0)) (trs rest)) : gx_read_house [.str z] = some (.ex "NoHouse") := by
  obtain ⟨s, es⟩ := rh_rest hz e h0 ha
  have hf := few hz e h0 ha
  obtain ⟨_, n1, n6⟩ := hdN_val h0
  refine (rh_run (r := .ex "NoHouse") ?_).trans rfl
  rw [es]
  refine sq3 ?_
  have ck := chk_bad (ts := srt (trs rest)) n1 n6 (fun g => hg (g.perm (srt_perm _))) (by rw [(srt_perm _).length_eq, trs_len]; omega)
  unfold callX
  simp only [s_consA, s_nilA, s_vF, List.getElem?_cons_zero, List.getElem?_cons_succ, Option.bind_some]
  show (gx_check_house [.tup [.int _, .lst _]]).bind _ = _
  rw [ck]; rfl
theorem rh_good (hz : (cp z).length ≤ 250) (e : wds z = t0 :: rest) (h0 : hd1 (cp t0) = true) (ha : allV rest = true) (hg : GoodH (hdN (cp t0)) (trs rest)) : gx_read_house [.str z] = some (.v (hD (hdN (cp t0)) (srt (trs rest)))) := by
  obtain ⟨s, es⟩ := rh_rest hz e h0 ha
  have hf := few hz e h0 ha
  obtain ⟨_, n1, n6⟩ := hdN_val h0
  refine (rh_run (r := .o (.rt (hD (hdN (cp t0)) (srt (trs rest))))) ?_).trans rfl
  rw [es]
  have ck := chk_good (ts := srt (trs rest)) n1 n6 (hg.perm (srt_perm _).symm) (by rw [(srt_perm _).length_eq, trs_len]; omega)
  rw [sq1 (ρ' := [.fr (.str z), .fr (.lst ((t0 :: rest).map D.str)), s, .fr (hD (hdN (cp t0)) (srt (trs rest)))]) (by
    unfold callX
    simp only [s_consA, s_nilA, s_vF, List.getElem?_cons_zero, List.getElem?_cons_succ, Option.bind_some]
    show (gx_check_house [.tup [.int _, .lst _]]).bind _ = _
    rw [ck]; rfl)]
  rfl
end
def qD (t : T3) : D := .tup [.int t.1, .int t.2.1]
def sameK (t u : T3) : Bool := decide (u.1 = t.1 ∧ u.2.1 = t.2.1)
theorem sameK_iff {t u : T3} : sameK t u = true ↔ kyT u = kyT t := by
  unfold sameK
  rw [decide_eq_true_iff]
  constructor
  · rintro ⟨a, b⟩; simp [kyT, a, b]
  · intro h
    simp only [kyT, List.cons.injEq, Sum.inl.injEq, and_true] at h
    exact h
theorem nodup_cnt : ∀ l : List T3, (∀ t ∈ l, l.countP (sameK t) ≤ 1) ↔ (l.map kyT).Nodup
  | [] => by simp
  | a :: l => by
    have self : sameK a a = true := sameK_iff.mpr rfl
    rw [List.map_cons, List.nodup_cons, ← nodup_cnt l]
    constructor
    · intro h
      have ha := h a List.mem_cons_self
      rw [List.countP_cons, self, if_pos rfl] at ha
      have hz : l.countP (sameK a) = 0 := by omega
      rw [List.countP_eq_zero] at hz
      refine ⟨fun hm => ?_, fun t ht => ?_⟩
      · obtain ⟨u, hu, e⟩ := List.mem_map.mp hm
        exact hz u hu (sameK_iff.mpr e)
      · have := h t (List.mem_cons_of_mem _ ht)
        rw [List.countP_cons] at this
        omega
    · rintro ⟨h1, h2⟩ t ht
      rw [List.countP_cons]
      rcases List.mem_cons.mp ht with rfl | ht
      · have hz : l.countP (sameK t) = 0 := by
          rw [List.countP_eq_zero]
          intro u hu z
          exact h1 (List.mem_map.mpr ⟨u, hu, sameK_iff.mp z⟩)
        rw [hz]
        split <;> omega
      · have hn : ¬ sameK t a = true := fun z => h1 (by rw [sameK_iff.mp z]; exact List.mem_map.mpr ⟨t, ht, rfl⟩)
        rw [if_neg hn]
        have := h2 t ht
        omega
theorem cnt_val (ts : List T3) (t : T3) : countD (.lst (ts.map qD)) (qD t) = some (.int (ts.countP (sameK t) : Nat)) := by
  show (if depL (ts.map qD) ≤ 100 then some (D.int ((ts.map qD).countP fun d => eqD d (qD t) : Nat)) else none) = _
  rw [if_pos (Nat.le_trans (depL_le (k := 1) fun d hd => by
    obtain ⟨u, _, rfl⟩ := List.mem_map.mp hd
    simp [qD, dep, depL]) (by decide)), List.countP_map]
  congr 3
  apply List.countP_congr
  intro u _
  unfold sameK
  simp only [Function.comp, qD, eqD, eqDL, Bool.and_true, Bool.and_eq_true, beq_iff_eq, decide_eq_true_eq]
def badP (n : Int) (ts : List T3) (t : T3) : Prop := n ≤ t.2.1 ∨ t.2.1 ≤ t.1 ∨ 1 < ts.countP (sameK t)
instance (n : Int) (ts : List T3) (t : T3) : Decidable (badP n ts t) := by unfold badP; exact inferInstance
theorem good_iff {n : Int} {ts : List T3} (h : ∀ t ∈ ts, 0 ≤ t.1 ∧ gM t.2.2) : (∀ t ∈ ts, ¬ badP n ts t) ↔ GoodH n ts := by
  unfold GoodH badP gR
  rw [← nodup_cnt ts]
  constructor
  · intro g
    refine ⟨fun t ht => ?_, fun t ht => ?_⟩
    · have := g t ht
      have h2 := h t ht
      exact ⟨⟨h2.1, by omega, by omega⟩, h2.2⟩
    · have := g t ht; omega
  · rintro ⟨g1, g2⟩ t ht
    have := (g1 t ht).1
    have := g2 t ht
    omega
theorem trs_ok {ws : List Str} (h : allV ws = true) : ∀ t ∈ trs ws, 0 ≤ t.1 ∧ gM t.2.2 := fun t ht => by
  obtain ⟨w, hw, rfl⟩ := List.mem_map.mp ht
  obtain ⟨a, b, c, e, h1, h2, h3⟩ := vW_ex (List.all_eq_true.mp h w hw)
  rw [e]
  have h1 := isL_iff.mp h1
  have h3 := isF_iff.mp h3
  refine ⟨by show 0 ≤ (a : Int) - 97; omega, ?_⟩
  show gM (mF c)
  unfold gM mF
  split <;> omega
noncomputable def rtT : FS := (retF (tupF (consA (cF (.str "text")) (consA (cF .non) nilA))))
theorem sz2 (a b : D) : (if [a, b].length ≤ sizeLine then some (D.tup [a, b]) else none) = some (.tup [a, b]) := if_pos (show 2 ≤ sizeLine from by decide)
theorem rtT_val {ρ : Rho} : rtT ρ = some (.rt (.tup [.str "text", .non])) := by
  unfold rtT
  simp only [s_retF, s_tupF, s_consA, s_nilA, s_cF, Option.bind_some, sz2]
theorem du_loop (a0 a1 a4 a5 a6 : FL.Slot) : ∀ (ws : List Str) (acc : List D) (s : FL.Slot), (∀ t ∈ ws, (cp t).length ≤ 400) → acc.length + ws.length ≤ 600 →
    (allV ws = true → ∃ s', loopF (nameG 3) (seqF (ifS lkT rtT nxF) (appendF 2 lkV)) (ws.map D.str) [a0, a1, .ol acc, s, a4, a5, a6] = some (.nx [a0, a1, .ol (acc ++ (trs ws).map tD), s', a4, a5, a6])) ∧
    (allV ws = false → loopF (nameG 3) (seqF (ifS lkT rtT nxF) (appendF 2 lkV)) (ws.map D.str) [a0, a1, .ol acc, s, a4, a5, a6] = some (.rt (.tup [.str "text", .non])))
  | [], acc, s, _, _ => ⟨fun _ => ⟨s, by simp [trs]; rfl⟩, fun h => by cases h⟩
  | t :: ws, acc, s, hl, hn => by
    rw [List.length_cons] at hn
    obtain ⟨i1, i2⟩ := du_loop a0 a1 a4 a5 a6 ws (acc ++ [tD (trp (cp t))]) (.fr (.str t)) (fun u hu => hl u (List.mem_cons_of_mem _ hu)) (by simp; omega)
    have tt := lkT_val (hl t List.mem_cons_self) a0 a1 (.ol acc) a4 a5 a6
    cases hv : vW (cp t) with
    | true =>
      have st : seqF (ifS lkT rtT nxF) (appendF 2 lkV) [a0, a1, .ol acc, .fr (.str t), a4, a5, a6] = some (.nx [a0, a1, .ol (acc ++ [tD (trp (cp t))]), .fr (.str t), a4, a5, a6]) := by
        rw [seq_nx (ρ' := [a0, a1, .ol acc, .fr (.str t), a4, a5, a6]) (by rw [ifS_f (by rw [tt, hv]; rfl)]; rfl)]
        simp only [s_appendF, lkV_val hv, Option.bind_some, List.getElem?_cons_zero, List.getElem?_cons_succ, List.set_cons_succ, List.set_cons_zero]
        rw [if_pos (small1000 (by omega))]
      rw [allV_cons, hv, Bool.true_and, List.map_cons]
      unfold loopF
      simp only [s_nameG, List.set_cons_succ, List.set_cons_zero, Option.bind_some, st]
      refine ⟨fun h => ?_, i2⟩
      obtain ⟨s', e⟩ := i1 h
      refine ⟨s', ?_⟩
      rw [e]
      simp [trs]
    | false =>
      have st : seqF (ifS lkT rtT nxF) (appendF 2 lkV) [a0, a1, .ol acc, .fr (.str t), a4, a5, a6] = some (.rt (.tup [.str "text", .non])) := seq_rt (by rw [ifS_t (by rw [tt, hv]; rfl)]; exact rtT_val)
      rw [allV_cons, hv, Bool.false_and, List.map_cons]
      unfold loopF
      simp only [s_nameG, List.set_cons_succ, List.set_cons_zero, Option.bind_some, st]
      exact ⟨(fun h => by cases h), fun _ => trivial⟩
noncomputable def prT : FT := (orT (blF (bind2 geD (vF 6) (appF intX (consA (bind2 ixD (vF 1) (cF (.int 0))) nilA)))) (orT (blF (bind2 geD (vF 5) (vF 6))) (blF (bind2 gtD (bind2 countD (vF 4) (tupF (consA (vF 5) (consA (vF 6) nilA)))) (cF (.int 1))))))
noncomputable def rtH : FS := (retF (tupF (consA (cF (.str "house")) (consA (cF .non) nilA))))
theorem rtH_val {ρ : Rho} : rtH ρ = some (.rt (.tup [.str "house", .non])) := by
  unfold rtH
  simp only [s_retF, s_tupF, s_consA, s_nilA, s_cF, Option.bind_some, sz2]
theorem prT_val {t0 : Str} {rest : List Str} {ts : List T3} (h0 : hd1 (cp t0) = true) (a0 a2 a3 : FL.Slot) (t : T3) : prT [a0, .fr (.lst ((t0 :: rest).map D.str)), a2, a3, .fr (.lst (ts.map qD)), .fr (.int t.1), .fr (.int t.2.1)] = some (decide (badP (hdN (cp t0)) ts t)) := by
  unfold prT badP
  have cv : countD (.lst (ts.map qD)) (.tup [.int t.1, .int t.2.1]) = _ := cnt_val ts t
  simp only [s_orT, s_blF, s_bind2, s_appF, s_consA, s_nilA, s_tupF, s_vF, s_cF, List.getElem?_cons_zero, List.getElem?_cons_succ, Option.bind_some, List.map_cons, ixL0, (hdN_val h0).1, s_ge, sz2, cv, s_gt]
  by_cases h1 : hdN (cp t0) ≤ t.2.1
  · simp [h1]
  · by_cases h2 : t.2.1 ≤ t.1
    · simp [h1, h2]
    · simp only [h1, h2, decide_false, Bool.false_eq_true, if_false, false_or]
      congr 1
      apply decide_eq_decide.mpr
      omega
noncomputable def γ2 : FG := (tupG 2 (consG (nameG 5) (consG (nameG 6) nilG)))
theorem pr_loop {t0 : Str} {rest : List Str} {ts : List T3} (h0 : hd1 (cp t0) = true) (a0 a2 a3 : FL.Slot) : ∀ (us : List T3) (s5 s6 : FL.Slot),
    ((∀ t ∈ us, ¬ badP (hdN (cp t0)) ts t) → ∃ s5' s6', loopF γ2 (ifS prT rtH nxF) (us.map qD) [a0, .fr (.lst ((t0 :: rest).map D.str)), a2, a3, .fr (.lst (ts.map qD)), s5, s6] = some (.nx [a0, .fr (.lst ((t0 :: rest).map D.str)), a2, a3, .fr (.lst (ts.map qD)), s5', s6'])) ∧
    ((¬ ∀ t ∈ us, ¬ badP (hdN (cp t0)) ts t) → loopF γ2 (ifS prT rtH nxF) (us.map qD) [a0, .fr (.lst ((t0 :: rest).map D.str)), a2, a3, .fr (.lst (ts.map qD)), s5, s6] = some (.rt (.tup [.str "house", .non])))
  | [], s5, s6 => ⟨fun _ => ⟨s5, s6, rfl⟩, fun h => absurd (fun t ht => nomatch ht) h⟩
  | t :: us, s5, s6 => by
    obtain ⟨i1, i2⟩ := pr_loop (ts := ts) h0 a0 a2 a3 us (.fr (.int t.1)) (.fr (.int t.2.1))
    have tt := prT_val (rest := rest) (ts := ts) h0 a0 a2 a3 t
    have g : γ2 (qD t) [a0, .fr (.lst ((t0 :: rest).map D.str)), a2, a3, .fr (.lst (ts.map qD)), s5, s6] = some [a0, .fr (.lst ((t0 :: rest).map D.str)), a2, a3, .fr (.lst (ts.map qD)), .fr (.int t.1), .fr (.int t.2.1)] := by
      simp only [γ2, qD, s_tupG, s_consG, s_nameG, s_nilG, List.length_cons, List.length_nil, Nat.reduceAdd, if_true, List.set_cons_succ, List.set_cons_zero, Option.bind_some]
    rw [List.map_cons]
    unfold loopF
    rw [g, Option.bind_some]
    by_cases c : badP (hdN (cp t0)) ts t
    · have st : ifS prT rtH nxF [a0, .fr (.lst ((t0 :: rest).map D.str)), a2, a3, .fr (.lst (ts.map qD)), .fr (.int t.1), .fr (.int t.2.1)] = some (.rt (.tup [.str "house", .non])) := by rw [ifS_t (by rw [tt, decide_eq_true c])]; exact rtH_val
      rw [st]
      exact ⟨fun h => absurd c (h t List.mem_cons_self), fun _ => rfl⟩
    · have st : ifS prT rtH nxF [a0, .fr (.lst ((t0 :: rest).map D.str)), a2, a3, .fr (.lst (ts.map qD)), .fr (.int t.1), .fr (.int t.2.1)] = some (.nx [a0, .fr (.lst ((t0 :: rest).map D.str)), a2, a3, .fr (.lst (ts.map qD)), .fr (.int t.1), .fr (.int t.2.1)]) := by rw [ifS_f (by rw [tt, decide_eq_false c])]; rfl
      rw [st]
      refine ⟨fun h => i1 fun u hu => h u (List.mem_cons_of_mem _ hu), fun h => i2 fun g => h fun u hu => ?_⟩
      rcases List.mem_cons.mp hu with rfl | hu
      · exact c
      · exact g u hu
section
variable {z t0 : Str} {rest : List Str}
theorem due_run {d : D} (h0 : F_l_due [.fr (.str z), .no, .no, .no, .no, .no, .no] = some (.rt d)) : g_l_due [.str z] = some d := by
  show outD (F_l_due [.fr (.str z), .no, .no, .no, .no, .no, .no]) = _
  rw [h0]; rfl
theorem due_words (hz : (cp z).length ≤ 250) (e : wds z = t0 :: rest) : asgF 1 (appF g_l_words (consA (vF 0) nilA)) [.fr (.str z), .no, .no, .no, .no, .no, .no] = some (.nx [.fr (.str z), .fr (.lst ((t0 :: rest).map D.str)), .no, .no, .no, .no, .no]) := by
  simp only [s_asgF, s_appF, s_consA, s_nilA, s_vF, List.getElem?_cons_zero, Option.bind_some, words_val (z := z) (by omega), e, List.set_cons_succ, List.set_cons_zero]
theorem due_text (hz : (cp z).length ≤ 250) (e : wds z = t0 :: rest) (h : hd1 (cp t0) = false ∨ allV rest = false) : g_l_due [.str z] = some (.tup [.str "text", .non]) := by
  have hw : ∀ t ∈ t0 :: rest, (cp t).length ≤ 400 := fun t ht => by have := wds_each (z := z) (t := t) (by rw [e]; exact ht); omega
  have hwl := wds_len z
  rw [e, List.length_cons] at hwl
  apply due_run
  unfold F_l_due
  rw [seq_nx (due_words hz e)]
  have hh := hdT_val (ρ := [.fr (.str z), .fr (.lst ((t0 :: rest).map D.str)), .no, .no, .no, .no, .no]) (t0 := t0) (rest := rest) rfl (hw t0 List.mem_cons_self)
  unfold hdT at hh
  cases h0 : hd1 (cp t0) with
  | false => exact seq_rt (by rw [ifS_t (by rw [hh, h0]; rfl)]; exact rtT_val)
  | true =>
    have ha : allV rest = false := by rcases h with z | z; rw [h0] at z; cases z; exact z
    rw [seq_nx (ρ' := [.fr (.str z), .fr (.lst ((t0 :: rest).map D.str)), .no, .no, .no, .no, .no]) (by rw [ifS_f (by rw [hh, h0]; rfl)]; rfl),
      seq_nx (ρ' := [.fr (.str z), .fr (.lst ((t0 :: rest).map D.str)), .ol [], .no, .no, .no, .no]) (by
        simp only [s_asgN, s_lstF, s_nilA, Option.bind_some, List.length_nil, Nat.zero_le, if_true, List.set_cons_succ, List.set_cons_zero])]
    refine seq_rt ?_
    rw [s_forF, sl_val (t0 := t0) (rest := rest) rfl, Option.bind_some]
    exact (du_loop _ _ _ _ _ rest [] .no (fun u hu => hw u (List.mem_cons_of_mem _ hu)) (by simp; omega)).2 ha
theorem due_rest (hz : (cp z).length ≤ 250) (e : wds z = t0 :: rest) (h0 : hd1 (cp t0) = true) (ha : allV rest = true) :
    (GoodH (hdN (cp t0)) (trs rest) → g_l_due [.str z] = some (.tup [.str "good", hD (hdN (cp t0)) (srt (trs rest))])) ∧ (¬ GoodH (hdN (cp t0)) (trs rest) → g_l_due [.str z] = some (.tup [.str "house", .non])) := by
  have hw : ∀ t ∈ t0 :: rest, (cp t).length ≤ 400 := fun t ht => by have := wds_each (z := z) (t := t) (by rw [e]; exact ht); omega
  have hf := few hz e h0 ha
  have hh := hdT_val (ρ := [.fr (.str z), .fr (.lst ((t0 :: rest).map D.str)), .no, .no, .no, .no, .no]) (t0 := t0) (rest := rest) rfl (hw t0 List.mem_cons_self)
  unfold hdT at hh
  obtain ⟨s3, e3⟩ := (du_loop (.fr (.str z)) (.fr (.lst ((t0 :: rest).map D.str))) .no .no .no rest [] .no (fun u hu => hw u (List.mem_cons_of_mem _ hu)) (by simp; omega)).1 ha
  rw [List.nil_append] at e3
  have cc : compF 1 [] (seqX (vF 2)) (nameG 0) ttF (sliceX (vF 0) noP (exP (cF (.int 2)))) [.fr (.str z), .fr (.lst ((t0 :: rest).map D.str)), .fr (.lst ((trs rest).map tD)), s3, .no, .no, .no] = some ((trs rest).map qD) := by
    rw [compF_ok (ds := (trs rest).map tD) rfl (by rw [List.length_map, trs_len]; exact sz1 (by omega))]
    show compGo _ _ _ ((trs rest).map tD) [.no] = _
    refine cmapL _ _ fun t _ => ?_
    have c2 : cutL [D.int t.1, .int t.2.1, .int t.2.2] none (some ((2 : Nat) : Int)) = [.int t.1, .int t.2.1] := by rw [cut_to _ 2 (by simp)]; rfl
    simp only [s_sliceX, s_vF, List.getElem?_cons_zero, s_noP, s_exP, s_cF, Option.bind_some, tD]
    exact congrArg (fun x => some (D.tup x)) c2
  have pre : F_l_due [.fr (.str z), .no, .no, .no, .no, .no, .no] = seqF (forF (seqX (vF 4)) γ2 (ifS prT rtH nxF)) (retF (tupF (consA (cF (.str "good")) (consA (tupF (consA (appF intX (consA (bind2 ixD (vF 1) (cF (.int 0))) nilA)) (consA (mapLst (sortTN (consA (vR 2) nilA))) nilA))) nilA)))) [.fr (.str z), .fr (.lst ((t0 :: rest).map D.str)), .fr (.lst ((trs rest).map tD)), s3, .fr (.lst ((trs rest).map qD)), .no, .no] := by
    unfold F_l_due
    rw [seq_nx (due_words hz e), seq_nx (ρ' := [.fr (.str z), .fr (.lst ((t0 :: rest).map D.str)), .no, .no, .no, .no, .no]) (by rw [ifS_f (by rw [hh, h0]; rfl)]; rfl),
      seq_nx (ρ' := [.fr (.str z), .fr (.lst ((t0 :: rest).map D.str)), .ol [], .no, .no, .no, .no]) (by
        simp only [s_asgN, s_lstF, s_nilA, Option.bind_some, List.length_nil, Nat.zero_le, if_true, List.set_cons_succ, List.set_cons_zero]),
      seq_nx (ρ' := [.fr (.str z), .fr (.lst ((t0 :: rest).map D.str)), .ol ((trs rest).map tD), s3, .no, .no, .no]) (by
        rw [s_forF, sl_val (t0 := t0) (rest := rest) rfl, Option.bind_some]
        exact e3), s_frzF, s_frz]
    simp only [List.getElem?_cons_zero, List.getElem?_cons_succ, List.set_cons_succ, List.set_cons_zero, Option.bind_some]
    rw [seq_nx (ρ' := [.fr (.str z), .fr (.lst ((t0 :: rest).map D.str)), .fr (.lst ((trs rest).map tD)), s3, .fr (.lst ((trs rest).map qD)), .no, .no]) (by rw [s_asgF, s_mapLst, cc]; rfl)]
    rfl
  obtain ⟨l1, l2⟩ := pr_loop (rest := rest) (ts := trs rest) h0 (.fr (.str z)) (.fr (.lst ((trs rest).map tD))) s3 (trs rest) .no .no
  have gi := good_iff (n := hdN (cp t0)) (trs_ok ha)
  constructor
  · intro g
    obtain ⟨s5, s6, e5⟩ := l1 (gi.mpr g)
    apply due_run
    rw [pre, seq_nx (ρ' := [.fr (.str z), .fr (.lst ((t0 :: rest).map D.str)), .fr (.lst ((trs rest).map tD)), s3, .fr (.lst ((trs rest).map qD)), s5, s6]) (by rw [s_forF]; exact e5)]
    have so : sortTN (consA (vR 2) nilA) [.fr (.str z), .fr (.lst ((t0 :: rest).map D.str)), .fr (.lst ((trs rest).map tD)), s3, .fr (.lst ((trs rest).map qD)), s5, s6] = some ((srt (trs rest)).map tD) := sort_val rfl (by rw [trs_len]; exact hf)
    have ixm : ixD (.lst ((t0 :: rest).map D.str)) (.int 0) = some (.str t0) := ixL0
    simp only [s_retF, s_tupF, s_consA, s_nilA, s_appF, s_bind2, s_mapLst, s_vF, s_cF, List.getElem?_cons_zero, List.getElem?_cons_succ, Option.bind_some, ixm, (hdN_val h0).1, so, Option.map_some, sz2]
    rfl
  · intro g
    apply due_run
    rw [pre]
    refine seq_rt ?_
    rw [s_forF]
    exact l2 fun x => g (gi.mp x)
end
theorem whole_int (i : Int) : g_l_whole [.int i] = some (.bl true) := by simp [g_l_whole, F_l_whole, subTy, tyN]
noncomputable def tuB : FS := (ifS (orT (notT (blF (bind1 (isTy "tuple") (vF 6)))) (blF (bind2 gtD (appF lenD (consA (mapLst (compF 1 [] (seqX (vF 6)) (nameG 0) (notT (blF (appF g_l_whole (consA (vF 0) nilA)))) (vF 0))) nilA)) (cF (.int 0))))) (retF (cF (.bl false))) nxF)
theorem tuB_val (a0 a1 a2 a3 a4 a5 : FL.Slot) (t : T3) : tuB [a0, a1, a2, a3, a4, a5, .fr (tD t)] = some (.nx [a0, a1, a2, a3, a4, a5, .fr (tD t)]) := by
  have c : compF 1 [] (seqX (vF 6)) (nameG 0) (notT (blF (appF g_l_whole (consA (vF 0) nilA)))) (vF 0) [a0, a1, a2, a3, a4, a5, .fr (tD t)] = some [] := by
    rw [compF_ok (ds := [.int t.1, .int t.2.1, .int t.2.2]) rfl (show 3 ≤ sizeLine from sz1 (by decide))]
    show compGo _ _ _ [.int t.1, .int t.2.1, .int t.2.2] [.no] = _
    refine cnone _ _ fun d hd => ?_
    have : ∃ i, d = .int i := by
      simp only [List.mem_cons, List.not_mem_nil, or_false] at hd
      rcases hd with rfl | rfl | rfl <;> exact ⟨_, rfl⟩
    obtain ⟨i, rfl⟩ := this
    simp only [s_notT, s_blF, s_appF, s_consA, s_nilA, s_vF, List.getElem?_cons_zero, Option.bind_some, whole_int, Bool.not_true]
  have i : bind1 (isTy "tuple") (vF 6) [a0, a1, a2, a3, a4, a5, .fr (tD t)] = some (.bl true) := rfl
  unfold tuB
  rw [ifS_f ?_]
  · rfl
  · rw [s_orT, s_notT, s_blF, i]
    simp only [Option.bind_some, Bool.not_true, Bool.false_eq_true, if_false]
    rw [s_blF, s_bind2, s_appF, s_consA, s_mapLst, c]
    simp
theorem tu_loop (a0 a1 a2 a3 a4 a5 : FL.Slot) : ∀ (ts : List T3) (s : FL.Slot), ∃ s', loopF (nameG 6) tuB (ts.map tD) [a0, a1, a2, a3, a4, a5, s] = some (.nx [a0, a1, a2, a3, a4, a5, s'])
  | [], s => ⟨s, rfl⟩
  | t :: ts, s => by
    obtain ⟨s', e⟩ := tu_loop a0 a1 a2 a3 a4 a5 ts (.fr (tD t))
    refine ⟨s', ?_⟩
    rw [List.map_cons]
    unfold loopF
    simp only [s_nameG, List.set_cons_succ, List.set_cons_zero, Option.bind_some, tuB_val]
    exact e
theorem dep_hD (n : Int) (ts : List T3) : dep (hD n ts) ≤ 100 := by
  have h : depL (ts.map tD) ≤ 1 := depL_le fun d hd => by
    obtain ⟨t, _, rfl⟩ := List.mem_map.mp hd
    simp [tD, dep, depL]
  simp only [hD, dep, depL]
  omega
theorem rt_good {h x : D} (n : Int) (ts : List T3) : rightD "good" h x (.tup [.str "good", hD n ts]) (hD n ts) = some (.bl true) := by
  unfold rightD
  have i0 : bind2 ixD (vF 2) (cF (.int 0)) [.fr h, .fr x, .fr (.tup [.str "good", hD n ts]), .no, .fr (hD n ts), .no, .no] = some (.str "good") := by
    simp only [s_bind2, s_vF, s_cF, List.getElem?_cons_zero, List.getElem?_cons_succ, Option.bind_some, ix0]
  have t : blF (bind2 neF (vF 4) (bind2 ixD (vF 2) (cF (.int 1)))) [.fr h, .fr x, .fr (.tup [.str "good", hD n ts]), .no, .fr (hD n ts), .no, .no] = some false := by
    simp only [s_blF, s_bind2, s_vF, s_cF, List.getElem?_cons_zero, List.getElem?_cons_succ, Option.bind_some, ix1, ne_same (dep_hD n ts)]
  have e0 : ixD (hD n ts) (.int 0) = some (.int n) := ix0
  have e1 : ixD (hD n ts) (.int 1) = some (.lst (ts.map tD)) := ix1
  have y1 : isTy "tuple" (hD n ts) = some (.bl true) := rfl
  have y2 : isTy "list" (.lst (ts.map tD)) = some (.bl true) := rfl
  obtain ⟨s', el⟩ := tu_loop (.fr h) (.fr x) (.fr (.tup [.str "good", hD n ts])) .no (.fr (hD n ts)) .no ts .no
  have u : F_t [.fr h, .fr x, .fr (.tup [.str "good", hD n ts]), .no, .fr (hD n ts), .no, .no] = some (.rt (.bl true)) := by
    unfold F_t
    rw [seq_nx (ρ' := [.fr h, .fr x, .fr (.tup [.str "good", hD n ts]), .no, .fr (hD n ts), .no, .no]) (by rw [ifS_f (by rfl)]; rfl),
      seq_nx (ρ' := [.fr h, .fr x, .fr (.tup [.str "good", hD n ts]), .no, .fr (hD n ts), .no, .no]) (by
        rw [ifS_f ?_]
        · rfl
        · simp only [s_orT, s_notT, s_blF, s_bind1, s_bind2, s_appF, s_consA, s_nilA, s_vF, s_cF, List.getElem?_cons_zero, List.getElem?_cons_succ, Option.bind_some, y1, e0, e1, whole_int, y2, Bool.not_true, Bool.false_eq_true, if_false]),
      seq_nx (ρ' := [.fr h, .fr x, .fr (.tup [.str "good", hD n ts]), .no, .fr (hD n ts), .no, s']) (by
        rw [s_forF]
        have sq : seqX (bind2 ixD (vF 4) (cF (.int 1))) [.fr h, .fr x, .fr (.tup [.str "good", hD n ts]), .no, .fr (hD n ts), .no, .no] = some (ts.map tD) := by
          simp only [s_seqX, s_bind2, s_vF, s_cF, List.getElem?_cons_zero, List.getElem?_cons_succ, Option.bind_some, e1]
          rfl
        rw [sq, Option.bind_some]
        exact el)]
    rfl
  rw [i0, Option.bind_some, if_neg (by rw [eqD_refl]; simp), t, Option.bind_some, if_neg (by simp), u]
  rfl
theorem rt_bad {h x : D} {c : Str} : rightD c h x (.tup [.str c, .non]) .non = some (.bl true) := by
  unfold rightD
  have i0 : bind2 ixD (vF 2) (cF (.int 0)) [.fr h, .fr x, .fr (.tup [.str c, .non]), .no, .fr .non, .no, .no] = some (.str c) := by
    simp only [s_bind2, s_vF, s_cF, List.getElem?_cons_zero, List.getElem?_cons_succ, Option.bind_some, ix0]
  have t : blF (bind2 neF (vF 4) (bind2 ixD (vF 2) (cF (.int 1)))) [.fr h, .fr x, .fr (.tup [.str c, .non]), .no, .fr .non, .no, .no] = some false := by
    simp only [s_blF, s_bind2, s_vF, s_cF, List.getElem?_cons_zero, List.getElem?_cons_succ, Option.bind_some, ix1, ne_same (d := .non) (by simp [dep])]
  have u : F_t [.fr h, .fr x, .fr (.tup [.str c, .non]), .no, .fr .non, .no, .no] = some (.rt (.bl true)) := by
    unfold F_t
    exact seq_rt (by rw [ifS_t (by rfl)]; rfl)
  rw [i0, Option.bind_some, if_neg (by rw [eqD_refl]; simp), t, Option.bind_some, if_neg (by simp), u]
  rfl
theorem no_nt : ¬ ("NoHouse" : Str) = "NoText" := fun e => by
  have := congrArg cp e
  rw [show cp "NoHouse" = _ from PyProof.Rows.signs_ofString "NoHouse", show cp "NoText" = _ from PyProof.Rows.signs_ofString "NoText"] at this
  exact absurd this (by decide)
theorem law_of {s : D} {z : Str} (hw : g_l_written [s] = some (.str z)) (hz : (cp z).length ≤ 250) : g_law [s] = some (.bl true) := by
  show (g_l_written [s]).bind _ = _
  rw [hw, Option.bind_some]
  obtain ⟨t0, rest, e⟩ : ∃ t0 rest, wds z = t0 :: rest := by
    cases h : wds z with
    | nil => exact absurd h (wds_ne z)
    | cons a r => exact ⟨a, r, rfl⟩
  by_cases h : hd1 (cp t0) = false ∨ allV rest = false
  · rw [due_text hz e h, Option.bind_some, rh_text hz e h, Option.bind_some]
    exact (if_pos rfl).trans rt_bad
  · have h0 : hd1 (cp t0) = true := by
      cases q : hd1 (cp t0) with
      | true => rfl
      | false => exact absurd (.inl q) h
    have ha : allV rest = true := by
      cases q : allV rest with
      | true => rfl
      | false => exact absurd (.inr q) h
    obtain ⟨d1, d2⟩ := due_rest hz e h0 ha
    by_cases g : GoodH (hdN (cp t0)) (trs rest)
    · rw [d1 g, Option.bind_some, rh_good hz e h0 ha g, Option.bind_some]
      exact rt_good _ _
    · rw [d2 g, Option.bind_some, rh_house hz e h0 ha g, Option.bind_some]
      exact ((if_neg no_nt).trans (if_pos rfl)).trans rt_bad
theorem mix_loop (k : Int) (s3 : FL.Slot) : ∀ (l : List D) (c : Int) (s2 : FL.Slot), ∃ (c' : Int) (s2' : FL.Slot), loopF (nameG 2) (asgF 0 (bind2 fdivD (vF 0) (cF (.int 2147483648)))) l [.fr (.int c), .fr (.int k), s2, s3] = some (.nx [.fr (.int c'), .fr (.int k), s2', s3])
  | [], c, s2 => ⟨c, s2, rfl⟩
  | d :: l, c, s2 => by
    obtain ⟨c', s2', e⟩ := mix_loop k s3 l (c / 2147483648) (.fr d)
    refine ⟨c', s2', ?_⟩
    have f := fdivD_ok (i := c) (show (0 : Int) < 2147483648 by decide) (by decide)
    unfold loopF
    simp only [s_nameG, Option.bind_some, List.set_cons_succ, List.set_cons_zero, s_asgF, s_bind2, s_vF, s_cF, List.getElem?_cons_zero, List.getElem?_cons_succ, f]
    exact e
theorem mix_val (c k : Int) (hk0 : 0 ≤ k) (hk : k ≤ 10) : ∃ z : Int, 0 ≤ z ∧ g_l_mix [.int c, .int k] = some (.int z) := by
  have p12 : powD (.int 10) (.int 12) = some (.int (10 ^ 12)) := powD_ok ⟨by decide, by decide, lt_big (k := 8) (by decide) (by decide)⟩
  by_cases hc : (10 : Int) ^ 12 ≤ c
  · have f12 := fdivD_ok (i := c) (show (0 : Int) < 10 ^ 12 by decide) (by decide)
    have md := modD_ok (i := k) (show (0 : Int) < 61 by decide)
    have ra : rangeA [.int (k % 61)] = some (rangeD 0 (k % 61)) := rangeA_ok (by omega) (by omega)
    obtain ⟨c', s2', e⟩ := mix_loop k .no (rangeD 0 (k % 61)) (c / 10 ^ 12 - 1) .no
    have md2 := modD_ok (i := c') (show (0 : Int) < 2147483648 by decide)
    refine ⟨c' % 2147483648, by omega, ?_⟩
    simp only [g_l_mix, F_l_mix, s_denF, s_startR, List.map_cons, List.map_nil, List.length_cons, List.length_nil, Nat.reduceAdd, Nat.reduceSub, List.replicate, List.cons_append, List.nil_append, s_seqF, s_ifS, s_blF, s_bind2, s_vF, s_cF, List.getElem?_cons_zero, List.getElem?_cons_succ, Option.bind_some, p12, s_ge, hc, decide_true, if_true, s_asgF, f12, s_sub, List.set_cons_zero, List.set_cons_succ, s_forF, s_rng1, s_consA, s_nilA, md, ra]
    rw [e]
    simp only [Option.bind_some, s_retF, s_bind2, s_vF, s_cF, List.getElem?_cons_zero, md2, s_outR]
  · have m1 : mulD (.int 8) (.int k) = _ := mulD_ok (mulOk_l (by decide) (by decide))
    have m2 : mulD (.int (8 * k)) (.int k) = _ := mulD_ok (mulOk_l (by omega) (by omega))
    have m3 : mulD (.int (c % 2147483629 + k + 1)) (.int (8 * k * k + 48271)) = _ := mulD_ok (mulOk_l (by omega) (by omega))
    have m4 : ∀ x : Int, mulD (.int (x % 2147483647)) (.int (x % 2147483647)) = _ := fun x => mulD_ok (mulOk_l (by omega) (by omega))
    have m5 : ∀ x y : Int, mulD (.int (x % 2147483587)) (.int y) = _ := fun x y => mulD_ok (mulOk_l (by omega) (by omega))
    refine ⟨_, ?_, by simp only [g_l_mix, F_l_mix, s_denF, s_startR, List.map_cons, List.map_nil, List.length_cons, List.length_nil, Nat.reduceAdd, Nat.reduceSub, List.replicate, List.cons_append, List.nil_append, s_seqF, s_ifS, s_blF, s_bind2, s_vF, s_cF, List.getElem?_cons_zero, List.getElem?_cons_succ, Option.bind_some, p12, s_ge, hc, decide_false, Bool.false_eq_true, if_false, s_nxF, s_asgF, modD_ok (show (0 : Int) < 2147483629 by decide), s_add, m1, m2, m3, modD_ok (show (0 : Int) < 2147483647 by decide), List.set_cons_succ, List.set_cons_zero, s_retF, m4, modD_ok (show (0 : Int) < 2147483587 by decide), m5, modD_ok (show (0 : Int) < 2147483579 by decide), s_outR]; rfl⟩
    exact Int.emod_nonneg _ (by decide)
theorem at_val (ns : List Int) : ∃ c : Int, g_l_at [.lst (ns.map D.int), .int 0] = some (.int c) := by
  cases ns with
  | nil =>
    have m1 : mulD (.int 17) (.int 0) = _ := mulD_ok (mulOk_l (by decide) (by decide))
    exact ⟨9, by simp [g_l_at, F_l_at, m1]⟩
  | cons a ns =>
    have e : ixD (.lst (.int a :: ns.map D.int)) (.int 0) = some (.int a) := by simp [ixD, atI, ixN]
    have h : (0 : Int) < (ns.length : Int) + 1 := by omega
    exact ⟨a, by simp [g_l_at, F_l_at, e, h]⟩
theorem litg : (cp "abcdefg").length = 7 := by rw [show cp "abcdefg" = _ from PyProof.Rows.signs_ofString "abcdefg"]; rfl
theorem lit11 : (cp "0123456789*").length = 11 := by rw [show cp "0123456789*" = _ from PyProof.Rows.signs_ofString "0123456789*"]; rfl
theorem litab : (cp "ab3").length = 3 := by rw [show cp "ab3" = _ from PyProof.Rows.signs_ofString "ab3"]; rfl
theorem one_len (c : Nat) : (cp (⟨#[c]⟩ : Str)).length = 1 := rfl
theorem add_ex {x y : Str} {m n : Nat} (hx : (cp x).length ≤ m) (hy : (cp y).length ≤ n) (h : m + n ≤ 900) : ∃ z, addX (.str x) (.str y) = some (.str z) ∧ (cp z).length ≤ m + n :=
  ⟨x ++ y, add_str (by omega), by rw [cp_app, List.length_append]; omega⟩
theorem odd_val (a : Int) (ha : 0 ≤ a) (last : Str) (hl : (cp last).length ≤ 4) : ∃ y, g_l_odd [.int a, .str last] = some (.str y) ∧ (cp y).length ≤ 4 := by
  let A : Str := " !\"#$&'()*+,-./0123456789:;<=>?@ABCDEFGHIJKLMNOPQRSTUVWXYZ[\\]^_`" ++ "abcdefghijklmnopqrstuvwxyz{|}~"
  have lA : (cp A).length = 94 := by show (cp (_ ++ _)).length = _; rw [cp_app, List.length_append, len_s, len_t]
  suffices h : ∃ y, F_l_odd [.fr (.int a), .fr (.str last), .no, .no, .no] = some (.rt (.str y)) ∧ (cp y).length ≤ 4 by
    obtain ⟨y, e, l⟩ := h
    refine ⟨y, ?_, l⟩
    show outD (F_l_odd [.fr (.int a), .fr (.str last), .no, .no, .no]) = _
    rw [e]; rfl
  have adA : addX (.str " !\"#$&'()*+,-./0123456789:;<=>?@ABCDEFGHIJKLMNOPQRSTUVWXYZ[\\]^_`") (.str "abcdefghijklmnopqrstuvwxyz{|}~") = some (.str A) := add_str (by rw [len_s, len_t]; decide)
  unfold F_l_odd
  have fd : ∀ i k : Int, 0 < k → k < 2 ^ 64 → fdivD (.int i) (.int k) = some (.int (i / k)) := fun i k h1 h2 => fdivD_ok h1 h2
  rw [seq_nx (ρ' := [.fr (.int a), .fr (.str last), .fr (.str " !\"#$&'()*+,-./0123456789:;<=>?@ABCDEFGHIJKLMNOPQRSTUVWXYZ[\\]^_`"), .no, .no]) rfl,
    seq_nx (ρ' := [.fr (.int a), .fr (.str last), .fr (.str A), .no, .no]) (by
      simp only [s_asgF, s_bind2, s_vF, s_cF, List.getElem?_cons_zero, List.getElem?_cons_succ, Option.bind_some, adA, List.set_cons_succ, List.set_cons_zero]),
    seq_nx (ρ' := [.fr (.int a), .fr (.str last), .fr (.str A), .fr (.int (a % 6)), .no]) (by
      simp only [s_asgF, s_bind2, s_vF, s_cF, List.getElem?_cons_zero, List.getElem?_cons_succ, Option.bind_some, modD_ok (show (0 : Int) < 6 by decide), List.set_cons_succ, List.set_cons_zero]),
    seq_nx (ρ' := [.fr (.int (a / 6)), .fr (.str last), .fr (.str A), .fr (.int (a % 6)), .no]) (by
      simp only [s_asgF, s_bind2, s_vF, s_cF, List.getElem?_cons_zero, List.getElem?_cons_succ, Option.bind_some, fd a 6 (by decide) (by decide), List.set_cons_succ, List.set_cons_zero])]
  have hb : 0 ≤ a / 6 := by omega
  generalize a / 6 = b at hb
  generalize a % 6 = w
  have tw : ∀ k : Int, blF (bind2 eqF (vF 3) (cF (.int k))) [.fr (.int b), .fr (.str last), .fr (.str A), .fr (.int w), .no] = some (decide (w = k)) := fun k => by
    simp only [s_blF, s_bind2, s_vF, s_cF, List.getElem?_cons_zero, List.getElem?_cons_succ, Option.bind_some, s_eqi]
  by_cases w0 : w = 0
  · obtain ⟨c, hc⟩ := ix_ex A (b % 94) (by omega) (by rw [lA]; omega) (by omega)
    refine ⟨⟨#[c]⟩, ?_, by rw [one_len]; omega⟩
    refine seq_rt ?_
    rw [ifS_t (by rw [tw, decide_eq_true w0])]
    simp only [s_retF, s_bind2, s_vF, s_cF, List.getElem?_cons_zero, List.getElem?_cons_succ, Option.bind_some, modD_ok (show (0 : Int) < 94 by decide), hc]
  rw [seq_nx (ρ' := [.fr (.int b), .fr (.str last), .fr (.str A), .fr (.int w), .no]) (by rw [ifS_f (by rw [tw, decide_eq_false w0])]; rfl)]
  by_cases w1 : w = 1
  · exact ⟨"  ", seq_rt (by rw [ifS_t (by rw [tw, decide_eq_true w1])]; rfl), Nat.le_trans (lit2 "  " (by decide)) (by decide)⟩
  rw [seq_nx (ρ' := [.fr (.int b), .fr (.str last), .fr (.str A), .fr (.int w), .no]) (by rw [ifS_f (by rw [tw, decide_eq_false w1])]; rfl)]
  by_cases w2 : w = 2
  · obtain ⟨c1, h1⟩ := ix_ex "abcdefg" (b % 7) (by omega) (by rw [litg]; omega) (by rw [litg]; omega)
    obtain ⟨c2, h2⟩ := ix_ex "abcdefg" (b / 7 % 7) (by omega) (by rw [litg]; omega) (by rw [litg]; omega)
    obtain ⟨c3, h3⟩ := ix_ex "0123456789*" (b / 49 % 11) (by omega) (by rw [lit11]; omega) (by rw [lit11]; omega)
    obtain ⟨m, em, lm⟩ := add_ex (x := ⟨#[c1]⟩) (y := ⟨#[c2]⟩) (m := 1) (n := 1) (by rw [one_len]; omega) (by rw [one_len]; omega) (by omega)
    obtain ⟨m2, em2, lm2⟩ := add_ex (x := " ") (y := m) (m := 1) (n := 2) (by rw [litB]; simp) lm (by omega)
    obtain ⟨m3, em3, lm3⟩ := add_ex (x := m2) (y := ⟨#[c3]⟩) (m := 3) (n := 1) lm2 (by rw [one_len]; omega) (by omega)
    refine ⟨m3, ?_, lm3⟩
    refine seq_rt ?_
    rw [ifS_t (by rw [tw, decide_eq_true w2]), seq_nx (ρ' := [.fr (.int b), .fr (.str last), .fr (.str A), .fr (.int w), .fr (.str m)]) (by
      simp only [s_asgF, s_bind2, s_vF, s_cF, List.getElem?_cons_zero, List.getElem?_cons_succ, Option.bind_some, modD_ok (show (0 : Int) < 7 by decide), fd b 7 (by decide) (by decide), h1, h2, em, List.set_cons_succ, List.set_cons_zero])]
    simp only [s_retF, s_bind2, s_vF, s_cF, List.getElem?_cons_zero, List.getElem?_cons_succ, Option.bind_some, em2, fd b 49 (by decide) (by decide), modD_ok (show (0 : Int) < 11 by decide), h3, em3]
  rw [seq_nx (ρ' := [.fr (.int b), .fr (.str last), .fr (.str A), .fr (.int w), .no]) (by rw [ifS_f (by rw [tw, decide_eq_false w2])]; rfl)]
  by_cases w3 : w = 3
  · exact ⟨"ab3", seq_rt (by rw [ifS_t (by rw [tw, decide_eq_true w3])]; rfl), by rw [litab]; omega⟩
  rw [seq_nx (ρ' := [.fr (.int b), .fr (.str last), .fr (.str A), .fr (.int w), .no]) (by rw [ifS_f (by rw [tw, decide_eq_false w3])]; rfl)]
  exact ⟨last, rfl, hl⟩
theorem part_val (a m : Int) (ha : 0 ≤ a) (hm : 1 ≤ m) (hm6 : m ≤ 6) (last : Str) (hl : (cp last).length ≤ 4) : ∃ y, g_l_part [.int a, .int m, .str last] = some (.str y) ∧ (cp y).length ≤ 4 := by
  suffices h : ∃ y, F_l_part [.fr (.int a), .fr (.int m), .fr (.str last), .no, .no] = some (.rt (.str y)) ∧ (cp y).length ≤ 4 by
    obtain ⟨y, e, l⟩ := h
    refine ⟨y, ?_, l⟩
    show outD (F_l_part [.fr (.int a), .fr (.int m), .fr (.str last), .no, .no]) = _
    rw [e]; rfl
  unfold F_l_part
  have fd : ∀ i k : Int, 0 < k → k < 2 ^ 64 → fdivD (.int i) (.int k) = some (.int (i / k)) := fun i k h1 h2 => fdivD_ok h1 h2
  have t : blF (bind2 eqF (bind2 modD (vF 0) (cF (.int 8))) (cF (.int 0))) [.fr (.int a), .fr (.int m), .fr (.str last), .no, .no] = some (decide (a % 8 = 0)) := by
    simp only [s_blF, s_bind2, s_vF, s_cF, List.getElem?_cons_zero, List.getElem?_cons_succ, Option.bind_some, modD_ok (show (0 : Int) < 8 by decide), s_eqi]
  by_cases h0 : a % 8 = 0
  · obtain ⟨y, ey, ly⟩ := odd_val (a / 8) (by omega) last hl
    refine ⟨y, seq_rt ?_, ly⟩
    rw [ifS_t (by rw [t, decide_eq_true h0])]
    simp only [s_retF, s_appF, s_consA, s_nilA, s_bind2, s_vF, s_cF, List.getElem?_cons_zero, List.getElem?_cons_succ, Option.bind_some, fd a 8 (by decide) (by decide), ey]
  have hb : 0 ≤ a / 8 := by omega
  have hm0 : 0 < m := by omega
  rw [seq_nx (ρ' := [.fr (.int a), .fr (.int m), .fr (.str last), .no, .no]) (by rw [ifS_f (by rw [t, decide_eq_false h0])]; rfl),
    seq_nx (ρ' := [.fr (.int (a / 8)), .fr (.int m), .fr (.str last), .no, .no]) (by
      simp only [s_asgF, s_bind2, s_vF, s_cF, List.getElem?_cons_zero, List.getElem?_cons_succ, Option.bind_some, fd a 8 (by decide) (by decide), List.set_cons_succ, List.set_cons_zero]),
    seq_nx (ρ' := [.fr (.int (a / 8)), .fr (.int m), .fr (.str last), .fr (.int (a / 8 % m)), .no]) (by
      simp only [s_asgF, s_bind2, s_vF, s_cF, List.getElem?_cons_zero, List.getElem?_cons_succ, Option.bind_some, modD_ok hm0, List.set_cons_succ, List.set_cons_zero]),
    seq_nx (ρ' := [.fr (.int (a / 8)), .fr (.int m), .fr (.str last), .fr (.int (a / 8 % m)), .fr (.int (a / 8 / 8 % m))]) (by
      simp only [s_asgF, s_bind2, s_vF, s_cF, List.getElem?_cons_zero, List.getElem?_cons_succ, Option.bind_some, fd (a / 8) 8 (by decide) (by decide), modD_ok hm0, List.set_cons_succ, List.set_cons_zero])]
  have i0 : 0 ≤ a / 8 % m := Int.emod_nonneg _ (by omega)
  have i6 : a / 8 % m < 6 := by have := Int.emod_lt_of_pos (a / 8) hm0; omega
  have j0 : 0 ≤ a / 8 / 8 % m := Int.emod_nonneg _ (by omega)
  have j6 : a / 8 / 8 % m < 6 := by have := Int.emod_lt_of_pos (a / 8 / 8) hm0; omega
  generalize a / 8 % m = i at i0 i6
  generalize a / 8 / 8 % m = j at j0 j6
  generalize a / 8 = b at hb
  obtain ⟨j', j0', j6', ej⟩ : ∃ j' : Int, 0 ≤ j' ∧ j' < 6 ∧ ifS (blF (bind2 eqF (vF 3) (vF 4))) (asgF 4 (bind2 modD (bind2 addX (vF 3) (cF (.int 1))) (cF (.int 6)))) nxF [.fr (.int b), .fr (.int m), .fr (.str last), .fr (.int i), .fr (.int j)] = some (.nx [.fr (.int b), .fr (.int m), .fr (.str last), .fr (.int i), .fr (.int j')]) := by
    have t : blF (bind2 eqF (vF 3) (vF 4)) [.fr (.int b), .fr (.int m), .fr (.str last), .fr (.int i), .fr (.int j)] = some (decide (i = j)) := by
      simp only [s_blF, s_bind2, s_vF, s_cF, List.getElem?_cons_zero, List.getElem?_cons_succ, Option.bind_some, s_eqi]
    by_cases e : i = j
    · refine ⟨(i + 1) % 6, by omega, by omega, ?_⟩
      rw [ifS_t (by rw [t, decide_eq_true e])]
      simp only [s_asgF, s_bind2, s_vF, s_cF, List.getElem?_cons_zero, List.getElem?_cons_succ, Option.bind_some, s_add, modD_ok (show (0 : Int) < 6 by decide), List.set_cons_succ, List.set_cons_zero]
    · exact ⟨j, j0, j6, by rw [ifS_f (by rw [t, decide_eq_false e])]; rfl⟩
  rw [seq_nx ej]
  have x1 := ixA (i := if j' < i then j' else i) (by split <;> omega) (by split <;> omega)
  have x2 := ixA (i := if j' > i then j' else i) (by split <;> omega) (by split <;> omega)
  obtain ⟨c3, x3⟩ := ix_ex "3456*" (b / 64 % 5) (by omega) (by rw [litTN]; simp; omega) (by rw [litTN]; simp)
  obtain ⟨m1, e1, l1⟩ := add_ex (x := " ") (y := ⟨#[97 + (if j' < i then j' else i).toNat]⟩) (m := 1) (n := 1) (by rw [litB]; simp) (by rw [one_len]; omega) (by omega)
  obtain ⟨m2, e2, l2⟩ := add_ex (x := m1) (y := ⟨#[97 + (if j' > i then j' else i).toNat]⟩) (m := 2) (n := 1) l1 (by rw [one_len]; omega) (by omega)
  obtain ⟨m3, e3, l3⟩ := add_ex (x := m2) (y := ⟨#[c3]⟩) (m := 3) (n := 1) l2 (by rw [one_len]; omega) (by omega)
  refine ⟨m3, ?_, l3⟩
  simp only [s_retF, s_bind2, s_appF, s_consA, s_nilA, s_vF, s_cF, List.getElem?_cons_zero, List.getElem?_cons_succ, Option.bind_some, s_min, s_max, x1, x2, e1, e2, fd b 64 (by decide) (by decide), modD_ok (show (0 : Int) < 5 by decide), x3, e3]
theorem wr_loop (a0 a1 : FL.Slot) (m : Int) (hm : 1 ≤ m) (hm6 : m ≤ 6) : ∀ (cs : List Int) (w last : Str) (s5 : FL.Slot), (cp w).length + 4 * cs.length ≤ 250 → (cp last).length ≤ 4 → ∃ w' last' s5', (cp w').length ≤ 250 ∧
    loopF (nameG 5) (seqF (asgF 4 (appF g_l_part (consA (appF g_l_mix (consA (vF 5) (consA (cF (.int 2)) nilA))) (consA (vF 2) (consA (vF 4) nilA))))) (asgF 3 (bind2 addX (vF 3) (vF 4)))) (cs.map D.int) [a0, a1, .fr (.int m), .fr (.str w), .fr (.str last), s5] = some (.nx [a0, a1, .fr (.int m), .fr (.str w'), .fr (.str last'), s5'])
  | [], w, last, s5, h, _ => ⟨w, last, s5, by simpa using h, rfl⟩
  | c :: cs, w, last, s5, h, hl => by
    rw [List.length_cons] at h
    obtain ⟨x, x0, ex⟩ := mix_val c 2 (by decide) (by decide)
    obtain ⟨y, ey, ly⟩ := part_val x m x0 hm hm6 last hl
    obtain ⟨w1, e1, l1⟩ := add_ex (x := w) (y := y) (m := (cp w).length) (n := 4) (Nat.le_refl _) ly (by omega)
    obtain ⟨w', last', s5', lw, e⟩ := wr_loop a0 a1 m hm hm6 cs w1 y (.fr (.int c)) (by omega) ly
    refine ⟨w', last', s5', lw, ?_⟩
    have st : seqF (asgF 4 (appF g_l_part (consA (appF g_l_mix (consA (vF 5) (consA (cF (.int 2)) nilA))) (consA (vF 2) (consA (vF 4) nilA))))) (asgF 3 (bind2 addX (vF 3) (vF 4))) [a0, a1, .fr (.int m), .fr (.str w), .fr (.str last), .fr (.int c)] = some (.nx [a0, a1, .fr (.int m), .fr (.str w1), .fr (.str y), .fr (.int c)]) := by
      simp only [s_seqF, s_asgF, s_appF, s_consA, s_nilA, s_bind2, s_vF, s_cF, List.getElem?_cons_zero, List.getElem?_cons_succ, Option.bind_some, ex, ey, List.set_cons_succ, List.set_cons_zero, e1]
    rw [List.map_cons]
    unfold loopF
    simp only [s_nameG, List.set_cons_succ, List.set_cons_zero, Option.bind_some, st]
    exact e
theorem written_val (ns : List Int) (hl : ns.length ≤ 63) : ∃ z, g_l_written [.lst (ns.map D.int)] = some (.str z) ∧ (cp z).length ≤ 250 := by
  obtain ⟨c, ec⟩ := at_val ns
  obtain ⟨a, ha, ea⟩ := mix_val c 1 (by decide) (by decide)
  suffices h : ∃ y, F_l_written [.fr (.lst (ns.map D.int)), .no, .no, .no, .no, .no] = some (.rt (.str y)) ∧ (cp y).length ≤ 250 by
    obtain ⟨y, e, l⟩ := h
    refine ⟨y, ?_, l⟩
    show outD (F_l_written [.fr (.lst (ns.map D.int)), .no, .no, .no, .no, .no]) = _
    rw [e]; rfl
  have fd : ∀ i k : Int, 0 < k → k < 2 ^ 64 → fdivD (.int i) (.int k) = some (.int (i / k)) := fun i k h1 h2 => fdivD_ok h1 h2
  generalize hM : 1 + a % 6 = M
  have hM1 : 1 ≤ M := by omega
  have hM6 : M ≤ 6 := by omega
  have es : strD [.int M] = some (.str (si M)) := by
    show (if M.natAbs.log2 < 1920 then some (D.str (si M)) else none) = _
    have : M.natAbs.log2 ≤ M.natAbs := Nat.log2_le_self _
    rw [if_pos (by omega)]
  have ls : (cp (si M)).length = 1 := by rw [si_nn (by omega), dg_lt (by omega)]; rfl
  unfold F_l_written
  rw [seq_nx (ρ' := [.fr (.lst (ns.map D.int)), .fr (.int a), .no, .no, .no, .no]) (by
      simp only [s_asgF, s_appF, s_consA, s_nilA, s_vF, s_cF, List.getElem?_cons_zero, Option.bind_some, ec, ea, List.set_cons_succ, List.set_cons_zero]),
    seq_nx (ρ' := [.fr (.lst (ns.map D.int)), .fr (.int a), .fr (.int M), .no, .no, .no]) (by
      simp only [s_asgF, s_bind2, s_vF, s_cF, List.getElem?_cons_zero, List.getElem?_cons_succ, Option.bind_some, modD_ok (show (0 : Int) < 6 by decide), s_add, hM, List.set_cons_succ, List.set_cons_zero]),
    seq_nx (ρ' := [.fr (.lst (ns.map D.int)), .fr (.int a), .fr (.int M), .fr (.str (si M)), .no, .no]) (by
      simp only [s_asgF, s_appF, s_consA, s_nilA, s_vF, List.getElem?_cons_zero, List.getElem?_cons_succ, Option.bind_some, es, List.set_cons_succ, List.set_cons_zero])]
  obtain ⟨w, lw, ew⟩ : ∃ w : Str, (cp w).length ≤ 2 ∧ ifS (blF (bind2 eqF (bind2 modD (bind2 fdivD (vF 1) (cF (.int 6))) (cF (.int 8))) (cF (.int 0)))) (asgF 3 (bind2 ixD (mapLst (lstF (consA (cF (.str "")) (consA (cF (.str "0")) (consA (cF (.str "7")) (consA (cF (.str "a")) (consA (cF (.str " 3")) (consA (cF (.str "33")) (consA (cF (.str "3 ")) (consA (cF (.str "03")) nilA)))))))))) (bind2 modD (bind2 fdivD (vF 1) (cF (.int 48))) (cF (.int 8))))) nxF [.fr (.lst (ns.map D.int)), .fr (.int a), .fr (.int M), .fr (.str (si M)), .no, .no] = some (.nx [.fr (.lst (ns.map D.int)), .fr (.int a), .fr (.int M), .fr (.str w), .no, .no]) := by
    have t : blF (bind2 eqF (bind2 modD (bind2 fdivD (vF 1) (cF (.int 6))) (cF (.int 8))) (cF (.int 0))) [.fr (.lst (ns.map D.int)), .fr (.int a), .fr (.int M), .fr (.str (si M)), .no, .no] = some (decide (a / 6 % 8 = 0)) := by
      simp only [s_blF, s_bind2, s_vF, s_cF, List.getElem?_cons_zero, List.getElem?_cons_succ, Option.bind_some, fd a 6 (by decide) (by decide), modD_ok (show (0 : Int) < 8 by decide), s_eqi]
    by_cases h : a / 6 % 8 = 0
    · have key : ∀ k : Int, 0 ≤ k → k < 8 → ∃ y : Str, ixD (.lst [.str "", .str "0", .str "7", .str "a", .str " 3", .str "33", .str "3 ", .str "03"]) (.int k) = some (.str y) ∧ (cp y).length ≤ 2 := by
        intro k h0 h1
        obtain ⟨j, rfl⟩ := Int.eq_ofNat_of_zero_le h0
        have hj : j < 8 := by omega
        rcases j with _ | _ | _ | _ | _ | _ | _ | _ | j
        · exact ⟨_, atI_nat (j := 0) rfl, lit2 _ (by decide)⟩
        · exact ⟨_, atI_nat (j := 1) rfl, lit2 _ (by decide)⟩
        · exact ⟨_, atI_nat (j := 2) rfl, lit2 _ (by decide)⟩
        · exact ⟨_, atI_nat (j := 3) rfl, lit2 _ (by decide)⟩
        · exact ⟨_, atI_nat (j := 4) rfl, lit2 _ (by decide)⟩
        · exact ⟨_, atI_nat (j := 5) rfl, lit2 _ (by decide)⟩
        · exact ⟨_, atI_nat (j := 6) rfl, lit2 _ (by decide)⟩
        · exact ⟨_, atI_nat (j := 7) rfl, lit2 _ (by decide)⟩
        · omega
      obtain ⟨y, ey, ly⟩ := key (a / 48 % 8) (by omega) (by omega)
      refine ⟨y, ly, ?_⟩
      rw [ifS_t (by rw [t, decide_eq_true h])]
      simp only [s_asgF, s_bind2, s_mapLst, s_lstF, s_consA, s_nilA, s_vF, s_cF, List.getElem?_cons_zero, List.getElem?_cons_succ, Option.bind_some, List.length_cons, List.length_nil, Nat.reduceAdd, show (8 : Nat) ≤ sizeLine from sz1 (by decide), if_true, Option.map_some, fd a 48 (by decide) (by decide), modD_ok (show (0 : Int) < 8 by decide), ey, List.set_cons_succ, List.set_cons_zero]
    · exact ⟨si M, by omega, by rw [ifS_f (by rw [t, decide_eq_false h])]; rfl⟩
  have hcl : (cutL ns (some 1) (some 201)).length ≤ 62 := by
    unfold cutL
    rw [show (some (1 : Int)) = some ((1 : Nat) : Int) from rfl, show (some (201 : Int)) = some ((201 : Nat) : Int) from rfl, HT.sIx_nat, HT.sIx_nat, List.length_take, List.length_drop]
    omega
  obtain ⟨w', last', s5', lw', ew'⟩ := wr_loop (.fr (.lst (ns.map D.int))) (.fr (.int a)) M hM1 hM6 (cutL ns (some 1) (some 201)) w "" .no (by omega) (by rw [lit0]; simp)
  refine ⟨w', ?_, lw'⟩
  rw [seq_nx ew, seq_nx (ρ' := [.fr (.lst (ns.map D.int)), .fr (.int a), .fr (.int M), .fr (.str w), .fr (.str ""), .no]) rfl,
    seq_nx (ρ' := [.fr (.lst (ns.map D.int)), .fr (.int a), .fr (.int M), .fr (.str w'), .fr (.str last'), s5']) (by
      rw [s_forF]
      have sq : seqX (sliceX (vF 0) (exP (cF (.int 1))) (exP (cF (.int 201)))) [.fr (.lst (ns.map D.int)), .fr (.int a), .fr (.int M), .fr (.str w), .fr (.str ""), .no] = some ((cutL ns (some 1) (some 201)).map D.int) := by rw [← cut_map]; rfl
      rw [sq, Option.bind_some]
      exact ew')]
  rfl
theorem law_true (ns : List Int) (hl : ns.length ≤ 63) : g_law [.lst (ns.map D.int)] = some (.bl true) := by
  obtain ⟨z, e, lz⟩ := written_val ns hl
  exact law_of e lz
end Pk14
open PySem PySem.W PyProof.Rows FL L2 in
set_option maxRecDepth 100000 in
set_option maxHeartbeats 0 in
theorem PySem.Challenge.cw_mirrorhouse_k14_whole_any_house_text_holds : PySem.Challenge.rw_mirrorhouse_k14_whole_any_house_text.Holds := by
  w_on; o_law; k_head; (case hw => w_witness2)
  k_fill
  refine L2.walk_ofK (l := PySem.Challenge.rw_mirrorhouse_k14_whole_any_house_text) (n := 63) (k := 4) (x := "_law_script") (CX := CX0) (sp := fun K => FL.spF K 1 Pk14.g_law) rfl (by decide) rfl ⟨rfl, by decide, by decide⟩ (fun w h Y => PySem.W.kIn_of Y) ?F (fun K H a ns hl _ hS => FL.law_sp hS (Pk14.law_true ns hl)) (fun _ _ _ _ z => z)
  case F =>
    intro w mg fa h KX G hmg
    refine' Pk14.all_mk KX G hmg ?a0 ?l0 ?c0 ?k0 ?a1 ?l1 ?c1 ?k1 ?a2 ?l2 ?c2 ?k2 ?a3 ?l3 ?c3 ?k3 ?a4 ?l4 ?c4 ?k4 ?a5 ?l5 ?c5 ?k5 ?a6 ?l6 ?c6 ?k6 ?a7 ?l7 ?c7 ?k7 ?a8 ?l8 ?c8 ?k8 ?a9 ?l9 ?c9 ?k9 ?a10 ?l10 ?c10 ?k10 ?a11 ?l11 ?c11 ?k11 ?a12 ?l12 ?c12 ?k12 ?b_ValueError ?b_bool ?b_int ?b_isinstance ?b_len ?b_list ?b_max ?b_min ?b_range ?b_sorted ?b_str ?b_tuple ?q_LETTERS ?q_MIRROR_FIGURES ?q_NEVER ?q_NEVER_SIGN ?q_TOLD_TURNS ?r_TOLD_TURNS ?q_TURN_FIGURES ?enN ?enH ?enE ?enT ?enW ?enM ?ec1 ?ec2 ?ec3 ?eokT ?ec4T ?eg1T ?eg2T ?eg3T ?eg4T ?eg5T ?eg6T ?eg7T ?eg8T ?ek1T ?ek2T ?ek3T ?ek4T ?eokN ?ec4N ?eg1N ?eg2N ?eg3N ?eg4N ?eg5N ?eg6N ?eg7N ?eg8N ?ek1N ?ek2N ?ek3N ?ek4N ?aq ?lq ?cq ?kq
    (case a0 => k_is)
    (case l0 => k_is)
    (case c0 => k_is)
    (case k0 => k_is)
    (case a1 => k_is)
    (case l1 => k_is)
    (case c1 => k_is)
    (case k1 => k_is)
    (case a2 => k_is)
    (case l2 => k_is)
    (case c2 => k_is)
    (case k2 => k_is)
    (case a3 => k_is)
    (case l3 => k_is)
    (case c3 => k_is)
    (case k3 => k_is)
    (case a4 => k_is)
    (case l4 => k_is)
    (case c4 => k_is)
    (case k4 => k_is)
    (case a5 => k_is)
    (case l5 => k_is)
    (case c5 => k_is)
    (case k5 => k_is)
    (case a6 => k_is)
    (case l6 => k_is)
    (case c6 => k_is)
    (case k6 => k_is)
    (case a7 => k_is)
    (case l7 => k_is)
    (case c7 => k_is)
    (case k7 => k_is)
    (case a8 => k_is)
    (case l8 => k_is)
    (case c8 => k_is)
    (case k8 => k_is)
    (case a9 => k_is)
    (case l9 => k_is)
    (case c9 => k_is)
    (case k9 => k_is)
    (case a10 => k_is)
    (case l10 => k_is)
    (case c10 => k_is)
    (case k10 => k_is)
    (case a11 => k_is)
    (case l11 => k_is)
    (case c11 => k_is)
    (case k11 => k_is)
    (case a12 => k_is)
    (case l12 => k_is)
    (case c12 => k_is)
    (case k12 => k_is)
    (case b_ValueError => k_is)
    (case b_bool => k_is)
    (case b_int => k_is)
    (case b_isinstance => k_is)
    (case b_len => k_is)
    (case b_list => k_is)
    (case b_max => k_is)
    (case b_min => k_is)
    (case b_range => k_is)
    (case b_sorted => k_is)
    (case b_str => k_is)
    (case b_tuple => k_is)
    (case q_LETTERS => k_is)
    (case q_MIRROR_FIGURES => k_is)
    (case q_NEVER => k_is)
    (case q_NEVER_SIGN => k_is)
    (case q_TOLD_TURNS => k_is)
    (case r_TOLD_TURNS => k_is)
    (case q_TURN_FIGURES => k_is)
    (case enN => k_is)
    (case enH => k_is)
    (case enE => k_is)
    (case enT => k_is)
    (case enW => k_is)
    (case enM => k_is)
    (case ec1 => k_is)
    (case ec2 => k_is)
    (case ec3 => k_is)
    (case eokT => k_exc)
    (case ec4T => k_is)
    (case eg1T => k_is)
    (case eg2T => k_is)
    (case eg3T => k_is)
    (case eg4T => k_is)
    (case eg5T => k_is)
    (case eg6T => k_is)
    (case eg7T => k_is)
    (case eg8T => k_is)
    (case ek1T => kit_is)
    (case ek2T => kit_is)
    (case ek3T => kit_is)
    (case ek4T => kit_is)
    (case eokN => k_exc)
    (case ec4N => k_is)
    (case eg1N => k_is)
    (case eg2N => k_is)
    (case eg3N => k_is)
    (case eg4N => k_is)
    (case eg5N => k_is)
    (case eg6N => k_is)
    (case eg7N => k_is)
    (case eg8N => k_is)
    (case ek1N => kit_is)
    (case ek2N => kit_is)
    (case ek3N => kit_is)
    (case ek4N => kit_is)
    (case aq => k_is)
    (case lq => k_is)
    (case cq => k_is)
    (case kq => k_is)
