import PyProof.Rows.All
import Wide.All
import OpenK.AllK
import Wide.FinOn
import PyProof.EqAt
import PyProof.EqKinds
import PyProof.TupleCall
import PyProof.ListMulAny
import KE.KIsAll
import Lean
import PySem.Challenge.RW_mirrorhouse_k13_houses_shown_and_read
set_option Elab.async false
set_option linter.all false
set_option maxRecDepth 100000
namespace L2
open PySem PySem.Spec PyProof.Rows
abbrev Key := Sum Int Str
def keyIs : Key → Value → Bool
  | .inl k, v => Value.isInt k v
  | .inr x, v => Value.isStrOf x v
def keyH (w : World) : Key → Int
  | .inl k => hashInt k
  | .inr x => hashStr w x
theorem keyIs_shape : ∀ {k : Key} {v : Value}, keyIs k v = true → (∃ i t, k = Sum.inl i ∧ v = Value.int i t) ∨ (∃ x t, k = Sum.inr x ∧ v = Value.str x t)
  | .inl i, v, h => by
    obtain ⟨t, e⟩ := Value.isInt_shape (k := i) (v := v) h
    exact .inl ⟨i, t, rfl, e⟩
  | .inr x, v, h => by
    obtain ⟨t, e⟩ := Value.isStrOf_shape (x := x) (v := v) h
    exact .inr ⟨x, t, rfl, e⟩
theorem keyIs_int (i : Int) (t : Tok) : keyIs (.inl i) (.int i t) = true := by simp [keyIs, Value.isInt]
theorem keyIs_str (x : Str) (t : Tok) : keyIs (.inr x) (.str x t) = true := by simp [keyIs, Value.isStrOf]
theorem key_ll (a b : Int) : decide ((Sum.inl a : Key) = Sum.inl b) = (a == b) := by
  by_cases e : a = b
  · subst e; simp
  · have h : ¬ (Sum.inl a : Key) = Sum.inl b := fun q => e (Sum.inl.inj q)
    rw [decide_eq_false h]
    exact (beq_eq_false_iff_ne.mpr e).symm
theorem key_rr (a b : Str) : decide ((Sum.inr a : Key) = Sum.inr b) = decide (a = b) := by
  by_cases e : a = b
  · subst e; simp
  · have h : ¬ (Sum.inr a : Key) = Sum.inr b := fun q => e (Sum.inr.inj q)
    rw [decide_eq_false h, decide_eq_false e]
theorem key_lr (a : Int) (b : Str) : decide ((Sum.inl a : Key) = Sum.inr b) = false := decide_eq_false (fun q => nomatch q)
theorem key_rl (a : Str) (b : Int) : decide ((Sum.inr a : Key) = Sum.inl b) = false := decide_eq_false (fun q => nomatch q)
def mixKind (prog : Program) (w : World) : PySem.KeyKind prog w Key where
  is := keyIs
  hash := keyH w
  inj := fun v a b ha hb => by
    rcases keyIs_shape ha with ⟨i, t, rfl, rfl⟩ | ⟨x, t, rfl, rfl⟩
    · rcases keyIs_shape hb with ⟨j, u, rfl, e⟩ | ⟨y, u, rfl, e⟩
      · injection e with e1 _; rw [e1]
      · exact nomatch e
    · rcases keyIs_shape hb with ⟨j, u, rfl, e⟩ | ⟨y, u, rfl, e⟩
      · exact nomatch e
      · injection e with e1 _; rw [e1]
  byValue := fun k v h => by
    rcases keyIs_shape h with ⟨i, t, rfl, rfl⟩ | ⟨x, t, rfl, rfl⟩ <;> rfl
  pyHash := fun hv h => by
    rcases keyIs_shape hv with ⟨i, t, rfl, rfl⟩ | ⟨x, t, rfl, rfl⟩
    · exact wpAny_pyHash_int h
    · exact wpAny_pyHash_str h
  eqBool := fun hu hv h => by
    rcases keyIs_shape hu with ⟨i, t, rfl, rfl⟩ | ⟨x, t, rfl, rfl⟩
    · rcases keyIs_shape hv with ⟨j, u, rfl, rfl⟩ | ⟨y, u, rfl, rfl⟩
      · rw [key_ll] at h; exact wpAny_eqBool_int h
      · rw [key_lr] at h; exact SeqAt.EqAt.int_str i t y u _ _ _ _ h
    · rcases keyIs_shape hv with ⟨j, u, rfl, rfl⟩ | ⟨y, u, rfl, rfl⟩
      · rw [key_rl] at h; exact SeqAt.EqAt.str_int x t j u _ _ _ _ h
      · rw [key_rr] at h; exact wpAny_eqBool_str h
  «strs» := fun k x t v h => by
    rcases keyIs_shape h with ⟨i, u, rfl, e⟩ | ⟨y, u, rfl, e⟩
    · exact nomatch e
    · injection e with e1 _
      subst e1
      cases v <;> rfl
theorem mixKind_int (prog : Program) (w : World) (i : Int) (t : Tok) : (mixKind prog w).is (.inl i) (.int i t) = true := keyIs_int i t
theorem mixKind_str (prog : Program) (w : World) (x : Str) (t : Tok) : (mixKind prog w).is (.inr x) (.str x t) = true := keyIs_str x t
end L2
namespace L2
open PySem PySem.Spec PyProof.Rows
inductive V where
  | non | bl (b : Bool) | int (i : Int) | str (x : Str) | byt (b : Array UInt8) | flt (b : UInt64) | ref (a : Addr) | ty (n : String)
  deriving DecidableEq
def RelV : V → Value → Prop
  | .non, u => u = Value.none
  | .bl b, u => u = Value.bool b
  | .int i, u => ∃ t, u = Value.int i t
  | .str x, u => ∃ t, u = Value.str x t
  | .byt b, u => ∃ t, u = Value.bytes b t
  | .flt b, u => ∃ t, u = Value.float b t
  | .ref a, u => u = Value.ref a
  | .ty n, u => u = Value.type n
abbrev Vals : List V → List Value → Prop := Paired RelV
theorem Vals.length {xs : List V} {us : List Value} (r : Vals xs us) : xs.length = us.length := Paired.length r
theorem Vals.get : ∀ {xs : List V} {us : List Value} {i : Nat} {x : V}, Vals xs us → xs[i]? = some x → ∃ u, us[i]? = some u ∧ RelV x u
  | _, _, _, _, .nil, e => by simp at e
  | _, _, 0, _, .cons r _, e => by simp at e; subst e; exact ⟨_, rfl, r⟩
  | _, _, i + 1, x, .cons _ t, e => by
    obtain ⟨u, h1, h2⟩ := Vals.get (i := i) (x := x) t (by simpa using e)
    exact ⟨u, by simpa using h1, h2⟩
theorem Vals.append : ∀ {xs ys : List V} {us ws : List Value}, Vals xs us → Vals ys ws → Vals (xs ++ ys) (us ++ ws)
  | _, _, _, _, .nil, s => s
  | _, _, _, _, .cons r t, s => .cons r (Vals.append t s)
theorem Vals.take : ∀ {xs : List V} {us : List Value} (n : Nat), Vals xs us → Vals (xs.take n) (us.take n)
  | _, _, 0, _ => .nil
  | _, _, _ + 1, .nil => .nil
  | _, _, n + 1, .cons r t => .cons r (Vals.take n t)
theorem Vals.drop : ∀ {xs : List V} {us : List Value} (n : Nat), Vals xs us → Vals (xs.drop n) (us.drop n)
  | _, _, 0, r => r
  | _, _, _ + 1, .nil => .nil
  | _, _, n + 1, .cons _ t => Vals.drop n t
def RelO : Option V → Option Value → Prop
  | some v, some u => RelV v u
  | none, none => True
  | _, _ => False
def KV {κ : Type} : List (κ × V) → List (κ × Value) → Prop := Paired fun (p : κ × V) (q : κ × Value) => p.1 = q.1 ∧ RelV p.2 q.2
def kV : Key → V
  | .inl i => .int i
  | .inr x => .str x
inductive HO where
  /-- a list -/
  | lst (xs : List V)
  /-- a tuple (never changes) -/
  | tup (xs : List V)
  /-- a dict whose keys are ints and texts; one whose keys are tuples of ints and texts (the empty one is both) -/
  | dK (kvs : List (Key × V)) | dT (kvs : List (List Key × V))
  /-- a set of ints: its members, its size -/
  | set (S : Int → Bool) (n : Nat)
  /-- an instance of the class at C, its dict at dx, its attributes -/
  | ins (C dx : Addr) (fs : List (Str × V))
  /-- the dict of the instance at x -/
  | own (x : Addr)
  /-- the dict of an exception -/
  | xd (fs : List (Str × V))
  /-- a bound method, f of x -/
  | met (f x : Addr)
  /-- a range object lo, lo + 1, .. below hi -/
  | rng (lo hi : Int)
  /-- a thing that is known to the object (the script; a dict while a loop walks it): read, never written while it is so -/
  | frz (o : Obj) (u : HO)
  /-- a code object's table -/
  | tbl (ps : Array Value)
  /-- any other thing, by what is true of its one object (a def of one's own: SetO a S n := HO.ext fun h => ..) -/
  | ext (φ : Heap → Prop)
abbrev Hp := Addr → Option HO
def upd (H : Hp) (a : Addr) (o : HO) : Hp := fun b => if b = a then some o else H b
theorem upd_same {H : Hp} {a : Addr} {o : HO} : upd H a o a = some o := by unfold upd; rw [if_pos rfl]
theorem upd_ne {H : Hp} {a b : Addr} {o : HO} (h : b ≠ a) : upd H a o b = H b := by unfold upd; rw [if_neg h]
theorem ne_of {H : Hp} {a b : Addr} {o u : HO} (h : H a = some o) (h' : H b = some u) (d : o ≠ u) : a ≠ b := by
  intro e; subst e; rw [h] at h'; exact d (Option.some.inj h')
theorem ne_of_none {H : Hp} {a b : Addr} {o : HO} (h : H a = some o) (h' : H b = none) : a ≠ b := by
  intro e; subst e; rw [h] at h'; cases h'
section
variable (P : Program) (w : World)
def ObjOk (H : Hp) (h : Heap) (a : Addr) : HO → Prop
  | .lst xs => xs.length ≤ sizeLine ∧ ∃ (its : List Value) (n : Nat), Vals xs its ∧ h.get? a = some { cls := .type "list", data := .seq its.toArray n }
  | .tup xs => xs.length ≤ sizeLine ∧ ∃ its : List Value, Vals xs its ∧ IsTup h a its.toArray
  | .dK kvs => kvs.length ≤ sizeLine ∧ (a == sysModules) = false ∧ ∃ vs, KV kvs vs ∧ h.DictOf (mixKind P w) a vs
  | .dT kvs => kvs.length ≤ sizeLine ∧ (a == sysModules) = false ∧ ∃ xs : List (List Key × Addr × Value),
      Paired (fun (p : List Key × V) (q : List Key × Addr × Value) => p.1 = q.1 ∧ H q.2.1 = some (.tup (p.1.map kV)) ∧ RelV p.2 q.2.2) kvs xs ∧
      ∃ o es ep, h.get? a = some o ∧ o.ExactDict ∧ o.data = .dict es ep ∧ es.toList = xs.map (entryOfKey (tupleKind (mixKind P w))) ∧ (xs.map (·.1)).Nodup
  | .set S n => h.SetOf (intKind P w) a S n
  | .ins C dx fs => H dx = some (.own a) ∧ fs.length ≤ 1000 ∧ dx ≠ a ∧ h.get? a = some (PySem.W.instObj C dx) ∧
      ∃ mA, h.Ns1 dx mA ∧ (∀ f, RelO (fs.lookup f) (mA f)) ∧ PySem.Within mA (fs.map (·.1))
  | .own _ => ∃ o, h.get? a = some o
  | .xd fs => ∃ mA, h.Ns1 a mA ∧ ∀ f, RelO (fs.lookup f) (mA f)
  | .rng lo hi => ∃ t u v, h.get? a = some { cls := .type "range", data := .fields #[.int lo t, .int hi u, .int 1 v] }
  | .frz o u => h.get? a = some o ∧ ObjOk H h a u
  | .tbl ps => h.get? a = some { cls := .none, data := .fields ps }
  | .met f x => h.get? a = some (PySem.W.methodObj (.ref f) (.ref x))
  | .ext φ => φ h ∧ (∃ o, h.get? a = some o) ∧ ∀ h1 h2 : Heap, φ h1 → (∀ o, h1.get? a = some o → h2.get? a = some o) → φ h2
def HOk (H : Hp) (h : Heap) : Prop := ∀ a o, H a = some o → ObjOk P w H h a o
end
section
variable {P : Program} {w : World} {H H' : Hp} {h h' : Heap} {a : Addr} {o : HO}
theorem ObjOk.lt (x : ObjOk P w H h a o) : a < h.objs.size := by
  cases o with
  | lst xs => obtain ⟨_, _, _, _, e⟩ := x; exact Heap.lt_size e
  | tup xs => obtain ⟨_, _, _, p⟩ := x; exact p.lt
  | dK kvs => obtain ⟨_, _, _, _, o, _, _, e, _⟩ := x; exact Heap.lt_size e
  | dT kvs => obtain ⟨_, _, _, _, o, _, _, e, _⟩ := x; exact Heap.lt_size e
  | set S n => obtain ⟨o, _, _, _, e, _⟩ := x; exact Heap.lt_size e
  | ins C dx fs => obtain ⟨_, _, _, e, _⟩ := x; exact Heap.lt_size e
  | own y => obtain ⟨_, e⟩ := x; exact Heap.lt_size e
  | xd fs => obtain ⟨_, ⟨_, _, _, e, _⟩, _⟩ := x; exact Heap.lt_size e
  | rng lo hi => obtain ⟨_, _, _, e⟩ := x; exact Heap.lt_size e
  | frz ob u => obtain ⟨e, _⟩ := x; exact Heap.lt_size e
  | tbl ps => exact Heap.lt_size (show h.get? a = some _ from x)
  | met f y => exact Heap.lt_size (show h.get? a = some _ from x)
  | ext φ => obtain ⟨_, ⟨_, e⟩, _⟩ := x; exact Heap.lt_size e
theorem Paired.mapP {α β : Type} {F G : α → β → Prop} : ∀ {l₁ : List α} {l₂ : List β}, Paired F l₁ l₂ → (∀ a b, F a b → G a b) → Paired G l₁ l₂
  | _, _, .nil, _ => .nil
  | _, _, .cons r t, f => .cons (f _ _ r) (Paired.mapP t f)
theorem ObjOk.stay (x : ObjOk P w H h a o) (k : ∀ b u, (b = a ∨ H b = some (.own a)) → h.get? b = some u → h'.get? b = some u)
    (ho : ∀ b, H b = some (.own a) → H' b = some (.own a)) (ht : ∀ b xs, H b = some (.tup xs) → H' b = some (.tup xs)) : ObjOk P w H' h' a o := by
  induction o with
  | lst xs => obtain ⟨z, its, n, r, e⟩ := x; exact ⟨z, its, n, r, k _ _ (.inl rfl) e⟩
  | tup xs => obtain ⟨z, its, r, ob, e, c⟩ := x; exact ⟨z, its, r, ob, k _ _ (.inl rfl) e, c⟩
  | dK kvs => obtain ⟨z, y, vs, r, ob, es, ep, e, c⟩ := x; exact ⟨z, y, vs, r, ob, es, ep, k _ _ (.inl rfl) e, c⟩
  | dT kvs =>
    obtain ⟨z, y, xs, r, ob, es, ep, e, c⟩ := x
    exact ⟨z, y, xs, Paired.mapP r fun p q z => ⟨z.1, ht _ _ z.2.1, z.2.2⟩, ob, es, ep, k _ _ (.inl rfl) e, c⟩
  | set S n => obtain ⟨ob, es, ep, t, e, c⟩ := x; exact ⟨ob, es, ep, t, k _ _ (.inl rfl) e, c⟩
  | ins C dx fs =>
    obtain ⟨d, z, ne, e, mA, ⟨od, es, ep, e2, c⟩, r⟩ := x
    exact ⟨ho _ d, z, ne, k _ _ (.inl rfl) e, mA, ⟨od, es, ep, k _ _ (.inr d) e2, c⟩, r⟩
  | own y => obtain ⟨ob, e⟩ := x; exact ⟨ob, k _ _ (.inl rfl) e⟩
  | xd fs => obtain ⟨mA, ⟨od, es, ep, e, c⟩, r⟩ := x; exact ⟨mA, ⟨od, es, ep, k _ _ (.inl rfl) e, c⟩, r⟩
  | rng lo hi => obtain ⟨t, u, v, e⟩ := x; exact ⟨t, u, v, k _ _ (.inl rfl) e⟩
  | frz ob u ih => obtain ⟨e, q⟩ := x; exact ⟨k _ _ (.inl rfl) e, ih q⟩
  | tbl ps =>
    have e : h.get? a = some { cls := .none, data := .fields ps } := x
    show h'.get? a = some { cls := .none, data := .fields ps }
    exact k a _ (.inl rfl) e
  | met f y =>
    have e : h.get? a = some (PySem.W.methodObj (.ref f) (.ref y)) := x
    show h'.get? a = some (PySem.W.methodObj (.ref f) (.ref y))
    exact k a _ (.inl rfl) e
  | ext φ => obtain ⟨p, ⟨o, e⟩, st⟩ := x; exact ⟨st _ _ p fun o q => k _ _ (.inl rfl) q, ⟨o, k _ _ (.inl rfl) e⟩, st⟩
theorem HOk.lt (x : HOk P w H h) (e : H a = some o) : a < h.objs.size := (x a o e).lt
theorem HOk.fresh (x : HOk P w H h) (e : h.objs.size ≤ a) : H a = none := by
  cases q : H a with
  | none => rfl
  | some u => exact absurd (Nat.lt_of_lt_of_le (x.lt q) e) (Nat.lt_irrefl _)
theorem HOk.kept (x : HOk P w H h) (k : ∀ b u, h.get? b = some u → h'.get? b = some u) : HOk P w H h' := fun a o e =>
  (x a o e).stay (fun b u _ q => k b u q) (fun _ q => q) fun _ _ q => q
theorem HOk.laid (x : HOk P w H h) (k : ∀ b u, h.get? b = some u → h'.get? b = some u) (hp : h.objs.size ≤ a) (new : ObjOk P w (upd H a o) h' a o) : HOk P w (upd H a o) h' := fun b u e => by
  have hn := x.fresh hp
  by_cases hb : b = a
  · subst hb; rw [upd_same] at e; cases e; exact new
  · rw [upd_ne hb] at e
    exact (x b u e).stay (fun c v _ q => k c v q) (fun c q => by rw [upd_ne (ne_of_none q hn)]; exact q) fun c xs q => by rw [upd_ne (ne_of_none q hn)]; exact q
end
def Rd (H : Hp) (a : Addr) (u : HO) : Prop := H a = some u ∨ ∃ o, H a = some (.frz o u)
theorem Rd.ok {P : Program} {w : World} {H : Hp} {h : Heap} {a : Addr} {u : HO} (r : Rd H a u) (x : HOk P w H h) : ObjOk P w H h a u := by
  rcases r with r | ⟨o, r⟩
  · exact x a u r
  · obtain ⟨_, q⟩ := x a _ r
    exact q
def Mut : Option HO → Prop
  | some (.lst _) => True
  | some (.dK _) => True
  | some (.dT _) => True
  | some (.set _ _) => True
  | some (.ins _ _ _) => True
  | some (.ext _) => True
  | _ => False
section
variable {P : Program} {w : World} {H : Hp} {h h' : Heap} {x e : Addr} {o' : HO}
theorem HOk.write (ok : HOk P w H h) (mu : Mut (H x)) (he : e = x ∨ H e = some (.own x)) (k : ∀ b u, b ≠ e → h.get? b = some u → h'.get? b = some u) (heo : ∃ u, h'.get? e = some u)
    (new : ObjOk P w (upd H x o') h' x o') : HOk P w (upd H x o') h' := fun b u q => by
  have nown : ∀ c y, H c = some (.own y) → c ≠ x := fun c y r z => by subst z; rw [r] at mu; exact mu
  have ntup : ∀ c xs, H c = some (.tup xs) → c ≠ x := fun c xs r z => by subst z; rw [r] at mu; exact mu
  by_cases hb : b = x
  · subst hb; rw [upd_same] at q; cases q; exact new
  · rw [upd_ne hb] at q
    by_cases hbe : b = e
    · have q' : H b = some (.own x) := by
        rcases he with z | z
        · exact absurd (hbe.trans z) hb
        · rw [hbe]; exact z
      rw [q] at q'; cases q'
      obtain ⟨v, hv⟩ := heo
      exact ⟨v, by rw [hbe]; exact hv⟩
    · refine (ok b u q).stay (fun c v hc r => k c v ?_ r) (fun c r => by rw [upd_ne (nown c b r)]; exact r) fun c xs r => by rw [upd_ne (ntup c xs r)]; exact r
      rcases hc with rfl | hc
      · exact hbe
      · rintro rfl
        rcases he with z | z
        · exact nown c b hc z
        · rw [hc] at z; cases z; exact hb rfl
end
structure Un (fs ex : List Addr) (H H' : Hp) (h h' : Heap) : Prop where
  keep : ∀ b o, h.get? b = some o → H b = none → b ∉ fs → b ∉ ex → h'.get? b = some o
  slot : ∀ b o, h.get? b = some o → H b = none → b ∈ fs → b ∉ ex → ∃ sl, h'.get? b = some { o with slots := sl }
  free : ∀ b o, h.get? b = some o → H b = none → b ∉ ex → H' b = none
  there : ∀ b o, h.get? b = some o → b ∉ ex → ∃ o', h'.get? b = some o'
  tups : ∀ b xs, H b = some (.tup xs) → H' b = some (.tup xs)
  frzs : ∀ b o u, H b = some (.frz o u) → H' b = some (.frz o u)
  tbls : ∀ b ps, H b = some (.tbl ps) → ∃ more, H' b = some (.tbl (ps ++ more))
section
variable {fs fs' ex ex' : List Addr} {H H1 H2 : Hp} {h h1 h2 h' : Heap} {a x e : Addr} {o : HO}
theorem Un.any (u : Un fs ex H H1 h h1) {b : Addr} {ob : Obj} (q : h.get? b = some ob) (n : H b = none) (hx : b ∉ ex) : ∃ sl, h1.get? b = some { ob with slots := sl } := by
  by_cases hb : b ∈ fs
  · exact u.slot b ob q n hb hx
  · exact ⟨ob.slots, u.keep b ob q n hb hx⟩
theorem Un.kept (k : ∀ b u, h.get? b = some u → h'.get? b = some u) : Un fs ex H H h h' :=
  ⟨fun b ob q _ _ _ => k b ob q, fun b ob q _ _ _ => ⟨ob.slots, k b ob q⟩, fun _ _ _ n _ => n, fun b ob q _ => ⟨ob, k b ob q⟩, fun _ _ q => q, fun _ _ _ q => q, fun _ ps q => ⟨#[], by rw [q]; simp⟩⟩
theorem Un.refl : Un fs ex H H h h := Un.kept fun _ _ q => q
theorem Un.laid (k : ∀ b u, h.get? b = some u → h'.get? b = some u) (hp : h.objs.size ≤ a) (hn : H a = none) : Un fs ex H (upd H a o) h h' where
  keep := fun b u q _ _ _ => k b u q
  slot := fun b u q _ _ _ => ⟨u.slots, k b u q⟩
  free := fun b u q n _ => by rw [upd_ne (Nat.ne_of_lt (Nat.lt_of_lt_of_le (Heap.lt_size q) hp))]; exact n
  there := fun b u q _ => ⟨u, k b u q⟩
  tups := fun b xs q => by rw [upd_ne (ne_of_none q hn)]; exact q
  frzs := fun b u xs q => by rw [upd_ne (ne_of_none q hn)]; exact q
  tbls := fun b ps q => ⟨#[], by rw [upd_ne (ne_of_none q hn), q]; simp⟩
theorem Un.write (mu : Mut (H x)) (he : e = x ∨ H e = some (.own x)) (k : ∀ b u, b ≠ e → h.get? b = some u → h'.get? b = some u) (heo : ∃ u, h'.get? e = some u) : Un fs ex H (upd H x o) h h' := by
  have hx : ∀ b, H b = none → b ≠ x := fun b n z => by subst z; rw [n] at mu; exact mu
  have hb : ∀ b, H b = none → b ≠ e := fun b n z => by
    subst z
    rcases he with r | r
    · exact hx b n r
    · rw [n] at r; cases r
  have hm : ∀ b u, H b = some u → ¬ Mut (some u) → b ≠ x := fun b u q nm z => by subst z; rw [q] at mu; exact nm mu
  refine ⟨fun b u q n _ _ => k b u (hb b n) q, fun b u q n _ _ => ⟨u.slots, k b u (hb b n) q⟩, fun b u q n _ => by rw [upd_ne (hx b n)]; exact n, fun b u q _ => ?_,
    fun b xs q => by rw [upd_ne (hm b _ q fun z => z)]; exact q, fun b u xs q => by rw [upd_ne (hm b _ q fun z => z)]; exact q, fun b ps q => ⟨#[], by rw [upd_ne (hm b _ q fun z => z), q]; simp⟩⟩
  by_cases hbe : b = e
  · subst hbe; exact heo
  · exact ⟨u, k b u hbe q⟩
end
def trk (h : Heap) (H : Hp) : List Addr := (List.range h.objs.size).filter fun a => (H a).isSome
def hidT (h : Heap) (H : Hp) : Heap := PySem.W.hideAll h (trk h H)
theorem hidT_size (h : Heap) (H : Hp) : (hidT h H).objs.size = h.objs.size := PySem.W.hideAll_size _ _
theorem hidT_get {h : Heap} {H : Hp} {b : Addr} {o : Obj} (e : h.get? b = some o) (n : H b = none) : (hidT h H).get? b = some o :=
  PySem.W.hideAll_get _ e fun hm => by
    have q : (H b).isSome = true := (List.mem_filter.mp hm).2
    rw [n] at q; simp at q
theorem of_hidT {h : Heap} {H : Hp} {b : Addr} {o : Obj} (e : (hidT h H).get? b = some o) : h.get? b = some o ∧ H b = none := by
  have e' : h.get? b = some o := PySem.W.of_hideAll (trk h H) e
  refine ⟨e', ?_⟩
  cases q : H b with
  | none => rfl
  | some x =>
    have hm : b ∈ trk h H := List.mem_filter.mpr ⟨List.mem_range.mpr (Heap.lt_size e'), by simp [q]⟩
    have z : (hidT h H).get? b = none := PySem.W.hideAll_none (trk h H) hm
    rw [z] at e; cases e
def allNews (g h : Heap) (L : Addr) : List (Addr × Obj) := (List.range h.objs.size).filterMap fun a => if a = L ∨ (g.get? a).isSome = true then none else (h.get? a).map fun o => (a, o)
def rest (g h : Heap) (L d : Addr) : List (Addr × Obj) := (allNews g h L).filter fun p => decide (p.1 ≠ d)
end L2
namespace L2
open PySem PySem.Spec PyProof.Rows
structure Mod (K : PySem.W.Frag) (mg : Str → Option Value) (base : Heap) : Prop where
  kin : K.In base
  glob : base.Ns mainGlobals mg
  blt : ∃ mb, base.Ns builtinsNs mb ∧ ∀ x : Str, x ≠ "__name__" → mb x = bootBuiltins x
  nolimit : base.NoLimit
structure Cx where
  prog : Program
  w : World
  K : PySem.W.Frag
  mg : Str → Option Value
  base : Heap
  A : Around
  N : List Str
  s₀ : Shared
  H₀ : Hp
  env : Env
  outer : List Env
  stack : List Env
  ex : List Addr
  fn : Str → Bool
  calm : Bool
  pn : List (Addr × Obj)
  xe : Value → Shared → Prop
def frs (l : List Env) : List Addr := l.filterMap (·.frame)
abbrev Cx.fs (X : Cx) : List Addr := frs X.outer
def Vis (sc : Scope) (x : Str) : Prop := sc.names.lookup x = some .local ∨ sc.names.lookup x = some .cell ∨ sc.names.lookup x = some .free
def Loc (sc : Scope) (x : Str) : Prop := sc.names.lookup x = some .local ∨ sc.names.lookup x = some .cell
def Look (env : Env) (h : Heap) (m : Str → Option Value) (x : Str) (u : Value) : Prop :=
  (env.kindOf x = some .local ∧ m x = some u) ∨ ((env.kindOf x = some .cell ∨ env.kindOf x = some .free) ∧ ∃ c, env.cells.lookup x = some c ∧ h.IsCell c (some u))
structure Cx.Ok (X : Cx) : Prop where
  mod : Mod X.K X.mg X.base
  kind : X.env.scope.kind = .function
  glob : X.env.globals = mainGlobals
  blt : X.env.builtins = builtinsNs
  above : X.s₀.heap.objs.size ≤ X.env.locals
  inj : ∀ x y c, X.env.cells.lookup x = some c → X.env.cells.lookup y = some c → x = y
  has : ∀ x, (X.env.kindOf x = some .cell ∨ X.env.kindOf x = some .free) → ∃ c, X.env.cells.lookup x = some c
  cab : ∀ x c, X.fn x = true → X.env.cells.lookup x = some c → X.s₀.heap.objs.size ≤ c
  hd : X.calm = true → X.A.handled = none
  frames : X.A.frames = some X.stack
  stk : X.stack = X.outer ∨ (X.stack = X.env :: X.outer ∧ X.env.frame = some X.env.locals)
  exf : ∀ b ∈ X.ex, b ≠ X.env.locals ∧ ∀ x c, X.env.cells.lookup x = some c → c ≠ b
  bs : ∀ b o, X.base.get? b = some o → X.s₀.heap.get? b = some o ∧ X.H₀ b = none
  bsz : X.base.objs.size ≤ X.s₀.heap.objs.size
  noex : ∀ b o, X.base.get? b = some o → b ∉ X.ex
  exfs : ∀ b ∈ X.ex, b ∉ X.fs
  funs : X.s₀.heap.FunFrames X.base X.outer
  frf : ∀ b ∈ X.fs, X.H₀ b = none
structure Inv (X : Cx) (pins : List (Addr × Obj)) (σ : List (Option V)) (H : Hp) (s : Shared) : Prop where
  ok : X.Ok
  os : s.os = X.s₀.os
  bare : AllBare s.gens
  base : Un X.fs X.ex X.H₀ H X.s₀.heap s.heap
  loc : ∃ m, s.heap.Ns X.env.locals m ∧ ∀ (i : Nat) (x : Str) (v : V), X.N[i]? = some x → σ[i]? = some (some v) → Vis X.env.scope x → ∃ u, RelV v u ∧ Look X.env s.heap m x u
  cell : ∀ x c, X.env.cells.lookup x = some c → ∃ v, s.heap.IsCell c v
  free : H X.env.locals = none
  freeC : ∀ x c, X.env.cells.lookup x = some c → H c = none
  pin : ∀ p ∈ X.pn ++ pins, s.heap.get? p.1 = some p.2 ∧ H p.1 = none ∧ p.1 ≠ X.env.locals ∧ p.1 ∉ X.fs ∧ ∀ v, p.2.data ≠ .cell v
  hok : HOk X.prog X.w H s.heap
  len : σ.length = X.N.length
section
variable {X : Cx} {pins : List (Addr × Obj)} {σ : List (Option V)} {H H' : Hp} {s : Shared} {h' : Heap}
theorem Cx.Ok.nofr (ok : X.Ok) {b : Addr} {o : Obj} (e : X.base.get? b = some o) : b ∉ X.fs := fun hb => by
  have := (ok.funs.mem hb).1
  rw [e] at this; cases this
theorem Inv.bs (I : Inv X pins σ H s) : ∀ b o, X.base.get? b = some o → s.heap.get? b = some o ∧ H b = none := fun b o e =>
  ⟨I.base.keep b o (I.ok.bs b o e).1 (I.ok.bs b o e).2 (I.ok.nofr e) (I.ok.noex b o e), I.base.free b o (I.ok.bs b o e).1 (I.ok.bs b o e).2 (I.ok.noex b o e)⟩
theorem Inv.bk (I : Inv X pins σ H s) : ∀ b o, X.base.get? b = some o → s.heap.get? b = some o := fun b o e => (I.bs b o e).1
theorem Inv.mod (I : Inv X pins σ H s) : Mod X.K X.mg X.base := I.ok.mod
theorem Inv.kIn (I : Inv X pins σ H s) : X.K.In s.heap := I.ok.mod.kin.keeps I.bk
theorem Inv.lt (I : Inv X pins σ H s) : X.env.locals < s.heap.objs.size := let ⟨_, hn, _⟩ := I.loc; hn.lt
theorem Inv.sz (I : Inv X pins σ H s) : X.s₀.heap.objs.size ≤ s.heap.objs.size := Nat.le_trans I.ok.above (Nat.le_of_lt I.lt)
theorem Inv.nofs (I : Inv X pins σ H s) {a : Addr} (h : s.heap.objs.size ≤ a) : a ∉ X.fs := fun hb => by
  obtain ⟨_, o, ho, _⟩ := I.ok.funs.mem hb
  exact absurd (Nat.lt_of_lt_of_le (Heap.lt_size ho) (Nat.le_trans I.sz h)) (Nat.lt_irrefl _)
theorem Inv.cne (I : Inv X pins σ H s) : ∀ x c, X.env.cells.lookup x = some c → c ≠ X.env.locals := fun x c e z => by
  obtain ⟨v, o, ho, hd⟩ := I.cell x c e
  obtain ⟨m, ⟨o', es, ep, ho', hd', _⟩, _⟩ := I.loc
  rw [z, ho'] at ho; cases ho; rw [hd'] at hd; cases hd
theorem Inv.funs (I : Inv X pins σ H s) : s.heap.FunFrames X.base X.outer := by
  have all : ∀ (l : List Env), (∀ b ∈ frs l, b ∈ X.fs) → X.s₀.heap.FunFrames X.base l → s.heap.FunFrames X.base l := by
    intro l
    induction l with
    | nil => intro _ _; trivial
    | cons env r ih =>
      intro hs hl
      obtain ⟨hk, ⟨L, o, hf, hn, ho, hd⟩, hr⟩ := hl
      have hL : L ∈ X.fs := hs L (by unfold frs; rw [List.filterMap_cons, hf]; exact List.mem_cons_self)
      obtain ⟨sl, e⟩ := I.base.slot L o ho (I.ok.frf L hL) hL fun z => I.ok.exfs L z hL
      exact ⟨hk, ⟨L, _, hf, hn, e, hd⟩, ih (fun b hb => hs b (by unfold frs; rw [List.filterMap_cons, hf]; exact List.mem_cons_of_mem _ hb)) hr⟩
  exact all X.outer (fun _ hb => hb) I.ok.funs
theorem Inv.stack (I : Inv X pins σ H s) : s.heap.FunFrames X.base X.stack := by
  rcases I.ok.stk with e | ⟨e, hf⟩
  · rw [e]; exact I.funs
  · rw [e]
    obtain ⟨m, hn, _⟩ := I.loc
    refine .cons (by rw [I.ok.kind]; decide) hf hn ?_ I.funs
    exact Heap.get?_none_of_le (Nat.le_trans I.ok.bsz I.ok.above)
theorem Inv.stkSub (I : Inv X pins σ H s) : ∀ b ∈ frs X.stack, b ∈ X.env.locals :: X.fs := fun b hb => by
  rcases I.ok.stk with e | ⟨e, hf⟩
  · rw [e] at hb; exact List.mem_cons_of_mem _ hb
  · rw [e] at hb
    unfold frs at hb
    rw [List.filterMap_cons, hf] at hb
    exact hb
theorem Inv.stkFree (I : Inv X pins σ H s) : ∀ b ∈ frs X.stack, H b = none := fun b hb => by
  rcases List.mem_cons.mp (I.stkSub b hb) with e | hb
  · rw [e]; exact I.free
  · obtain ⟨_, o, ho, _⟩ := I.ok.funs.mem hb
    exact I.base.free b o ho (I.ok.frf b hb) fun z => I.ok.exfs b z hb
theorem Inv.step {g' : Array GenState} {t' : Nat} {d' : Drawn} {ch : List Addr} (I : Inv X pins σ H s)
    (hch : ∀ b ∈ ch, (b ∈ X.ex ∨ X.s₀.heap.objs.size ≤ b) ∧ b ≠ X.env.locals ∧ (∀ x c, X.env.cells.lookup x = some c → c ≠ b) ∧ ∀ p ∈ X.pn ++ pins, p.1 ≠ b)
    (keep : ∀ b o, b ≠ X.env.locals → b ∉ X.fs → b ∉ ch → s.heap.get? b = some o → H b = none → h'.get? b = some o)
    (slot : ∀ b o, b ≠ X.env.locals → b ∈ X.fs → b ∉ ch → s.heap.get? b = some o → H b = none → ∃ sl, h'.get? b = some { o with slots := sl }) (free : ∀ b o, b ∉ ch → s.heap.get? b = some o → H b = none → H' b = none)
    (there : ∀ b o, b ∉ ch → s.heap.get? b = some o → ∃ o', h'.get? b = some o')
    (tups : ∀ b xs, H b = some (.tup xs) → H' b = some (.tup xs)) (frzs : ∀ b o u, H b = some (.frz o u) → H' b = some (.frz o u)) (tbls : ∀ b ps, H b = some (.tbl ps) → ∃ more, H' b = some (.tbl (ps ++ more)))
    (ns : ∀ m, s.heap.Ns X.env.locals m → h'.Ns X.env.locals m) (hok : HOk X.prog X.w H' h') (hg : AllBare g') :
    Inv X pins σ H' { s with heap := h', gens := g', drawn := d', toks := t' } := by
  have neL : ∀ b o, X.s₀.heap.get? b = some o → b ≠ X.env.locals := fun b o e => Nat.ne_of_lt (Nat.lt_of_lt_of_le (Heap.lt_size e) I.ok.above)
  have neC : ∀ b o, X.s₀.heap.get? b = some o → b ∉ X.ex → b ∉ ch := fun b o e hx hb => by
    rcases (hch b hb).1 with z | z
    · exact hx z
    · exact absurd (Nat.lt_of_lt_of_le (Heap.lt_size e) z) (Nat.lt_irrefl _)
  have cellK : ∀ x c, X.env.cells.lookup x = some c → ∀ v, s.heap.IsCell c v → h'.IsCell c v := fun x c e v ⟨o, ho, hd⟩ => by
    have nch : c ∉ ch := fun z => (hch c z).2.2.1 x c e rfl
    by_cases hc : c ∈ X.fs
    · obtain ⟨sl, q⟩ := slot c o (I.cne x c e) hc nch ho (I.freeC x c e)
      exact ⟨_, q, hd⟩
    · exact ⟨o, keep c o (I.cne x c e) hc nch ho (I.freeC x c e), hd⟩
  refine ⟨I.ok, I.os, hg, ⟨fun b o e n hb hx => ?_, fun b o e n hb hx => ?_, fun b o e n hx => ?_, fun b o e hx => ?_, fun b xs e => tups b xs (I.base.tups b xs e), fun b o xs e => frzs b o xs (I.base.frzs b o xs e), fun b ps e => ?_⟩, ?_, fun x c e => ?_, ?_, fun x c e => ?_, fun p hp => ?_, hok, I.len⟩
  · exact keep b o (neL b o e) hb (neC b o e hx) (I.base.keep b o e n hb hx) (I.base.free b o e n hx)
  · obtain ⟨sl, e1⟩ := I.base.slot b o e n hb hx
    obtain ⟨sl', e2⟩ := slot b _ (neL b o e) hb (neC b o e hx) e1 (I.base.free b o e n hx)
    exact ⟨sl', e2⟩
  · obtain ⟨o', e1⟩ := I.base.there b o e hx
    exact free b o' (neC b o e hx) e1 (I.base.free b o e n hx)
  · obtain ⟨o', e1⟩ := I.base.there b o e hx
    exact there b o' (neC b o e hx) e1
  · obtain ⟨m1, e1⟩ := I.base.tbls b ps e
    obtain ⟨m2, e2⟩ := tbls b _ e1
    exact ⟨m1 ++ m2, by rw [e2, Array.append_assoc]⟩
  · obtain ⟨m, hn, hl⟩ := I.loc
    refine ⟨m, ns m hn, fun i x v e1 e2 e3 => ?_⟩
    obtain ⟨u, r, l⟩ := hl i x v e1 e2 e3
    refine ⟨u, r, ?_⟩
    rcases l with l | ⟨k, c, e, z⟩
    · exact .inl l
    · exact .inr ⟨k, c, e, cellK x c e _ z⟩
  · obtain ⟨v, z⟩ := I.cell x c e
    exact ⟨v, cellK x c e v z⟩
  · obtain ⟨m, ⟨o, _, _, ho, _⟩, _⟩ := I.loc
    exact free _ o (fun z => (hch _ z).2.1 rfl) ho I.free
  · obtain ⟨v, o, ho, hd⟩ := I.cell x c e
    exact free c o (fun z => (hch c z).2.2.1 x c e rfl) ho (I.freeC x c e)
  · obtain ⟨e, n, ne, nf, d⟩ := I.pin p hp
    have nch : p.1 ∉ ch := fun z => (hch p.1 z).2.2.2 p hp rfl
    exact ⟨keep p.1 p.2 ne nf nch e n, free p.1 p.2 nch e n, ne, nf, d⟩
theorem Inv.un {t' : Nat} (I : Inv X pins σ H s) (u : Un X.fs [] H H' s.heap h') (hok : HOk X.prog X.w H' h') : Inv X pins σ H' { s with heap := h', toks := t' } := by
  obtain ⟨m, ⟨o, es, ep, ho, r⟩, _⟩ := id I.loc
  obtain ⟨sl, hL⟩ := u.any ho I.free (by simp)
  exact I.step (g' := s.gens) (d' := s.drawn) (ch := []) (fun _ z => nomatch z) (fun b o _ hb _ e n => u.keep b o e n hb (by simp)) (fun b o _ hb _ e n => u.slot b o e n hb (by simp)) (fun b o _ e n => u.free b o e n (by simp)) (fun b o _ e => u.there b o e (by simp)) u.tups u.frzs u.tbls (fun m' hm => by
    obtain ⟨o', es', ep', ho', r'⟩ := hm
    rw [ho] at ho'; cases ho'
    exact ⟨_, es', ep', hL, r'⟩) hok I.bare
theorem Inv.call {g' : Array GenState} {t' : Nat} {d' : Drawn} {ch : List Addr} (I : Inv X pins σ H s) (u : Un (frs X.stack) ch H H' s.heap h') (hok : HOk X.prog X.w H' h') (hg : AllBare g')
    (hch : ∀ b ∈ ch, (b ∈ X.ex ∨ X.s₀.heap.objs.size ≤ b) ∧ b ≠ X.env.locals ∧ (∀ x c, X.env.cells.lookup x = some c → c ≠ b) ∧ ∀ p ∈ X.pn ++ pins, p.1 ≠ b) :
    Inv X pins σ H' { s with heap := h', gens := g', drawn := d', toks := t' } := by
  obtain ⟨m, ⟨o, es, ep, ho, r⟩, _⟩ := id I.loc
  obtain ⟨sl, hL⟩ := u.any ho I.free fun z => (hch _ z).2.1 rfl
  exact I.step (ch := ch) hch (fun b o hL hb hc e n => u.keep b o e n (fun z => (List.mem_cons.mp (I.stkSub b z)).elim hL hb) hc) (fun b o _ _ hc e n => u.any e n hc) (fun b o hc e n => u.free b o e n hc) (fun b o hc e => u.there b o e hc) u.tups u.frzs u.tbls (fun m' hm => by
    obtain ⟨o', es', ep', ho', r'⟩ := hm
    rw [ho] at ho'; cases ho'
    exact ⟨_, es', ep', hL, r'⟩) hok hg
theorem Inv.turned {t' : Nat} {it : Addr} (I : Inv X pins σ H s) (k : ∀ b o, b ≠ it → s.heap.get? b = some o → h'.get? b = some o) (hn : H it = none) (hL : it ≠ X.env.locals)
    (h1 : it ∈ X.ex ∨ X.s₀.heap.objs.size ≤ it) (h2 : ∀ x c, X.env.cells.lookup x = some c → c ≠ it) (h3 : ∀ p ∈ X.pn ++ pins, p.1 ≠ it) : Inv X pins σ H { s with heap := h', toks := t' } := by
  have nit : ∀ b u, H b = some u → b ≠ it := fun b u e z => by rw [z, hn] at e; cases e
  refine I.step (g' := s.gens) (d' := s.drawn) (ch := [it]) (fun b hb => ?_) (fun b o _ _ hc e _ => k b o (fun z => hc (by simp [z])) e) (fun b o _ _ hc e _ => ⟨o.slots, k b o (fun z => hc (by simp [z])) e⟩) (fun _ _ _ _ n => n)
    (fun b o hc e => ⟨o, k b o (fun z => hc (by simp [z])) e⟩) (fun _ _ e => e) (fun _ _ _ e => e) (fun b ps e => ⟨#[], by rw [e]; simp⟩) (fun m hm => ?_) (fun b u e => ?_) I.bare
  · have e : b = it := by simpa using hb
    subst e
    exact ⟨h1, hL, h2, h3⟩
  · obtain ⟨o, es, ep, ho, r⟩ := hm
    exact ⟨o, es, ep, k _ o (Ne.symm hL) ho, r⟩
  · refine (I.hok b u e).stay (fun c v hc q => k c v ?_ q) (fun _ q => q) fun _ _ q => q
    rcases hc with z | z
    · rw [z]; exact nit b u e
    · exact nit c _ z
theorem Inv.tok (I : Inv X pins σ H s) (t : Nat) : Inv X pins σ H { s with toks := t } := I.un (h' := s.heap) (t' := t) Un.refl I.hok
theorem Inv.kept {t' : Nat} (I : Inv X pins σ H s) (k : ∀ b u, s.heap.get? b = some u → h'.get? b = some u) : Inv X pins σ H { s with heap := h', toks := t' } := I.un (Un.kept k) (I.hok.kept k)
theorem Inv.laid {a : Addr} {o : HO} {t' : Nat} (I : Inv X pins σ H s) (k : ∀ b u, s.heap.get? b = some u → h'.get? b = some u) (hp : s.heap.objs.size ≤ a) (new : ObjOk X.prog X.w (upd H a o) h' a o) :
    Inv X pins σ (upd H a o) { s with heap := h', toks := t' } := I.un (Un.laid k hp (I.hok.fresh hp)) (I.hok.laid k hp new)
theorem Inv.write {x e : Addr} {o : HO} {t' : Nat} (I : Inv X pins σ H s) (mu : Mut (H x)) (he : e = x ∨ H e = some (.own x)) (k : ∀ b u, b ≠ e → s.heap.get? b = some u → h'.get? b = some u) (heo : ∃ u, h'.get? e = some u)
    (new : ObjOk X.prog X.w (upd H x o) h' x o) : Inv X pins σ (upd H x o) { s with heap := h', toks := t' } := I.un (Un.write mu he k heo) (I.hok.write mu he k heo new)
theorem Inv.pins_of {pins' : List (Addr × Obj)} (I : Inv X pins σ H s) (h : ∀ p ∈ pins', s.heap.get? p.1 = some p.2 ∧ H p.1 = none ∧ p.1 ≠ X.env.locals ∧ p.1 ∉ X.fs ∧ ∀ v, p.2.data ≠ .cell v) : Inv X pins' σ H s :=
  ⟨I.ok, I.os, I.bare, I.base, I.loc, I.cell, I.free, I.freeC, fun p hp => (List.mem_append.mp hp).elim (fun z => I.pin p (List.mem_append_left _ z)) (h p), I.hok, I.len⟩
theorem nodup_ix {N : List Str} (hN : N.Nodup) {i j : Nat} {x : Str} (a : N[i]? = some x) (b : N[j]? = some x) : i = j := by
  obtain ⟨h1, e1⟩ := List.getElem?_eq_some_iff.mp a
  obtain ⟨h2, e2⟩ := List.getElem?_eq_some_iff.mp b
  exact (List.getElem_inj hN).mp (e1.trans e2.symm)
theorem store_ok2 {M : Model} {A : Around} {E : Value → Shared → Prop} {i : Nat} {x : Str} {v : V} {u : Value} {Q : Unit → Shared → Prop} (I : Inv X pins σ H s) (hN : X.N.Nodup) (hi : X.N[i]? = some x) (hx : Loc X.env.scope x) (r : RelV v u)
    (h : ∀ s', Inv X pins (σ.set i (some v)) H s' → (∃ a, Heap.SameBut a s.heap s'.heap ∧ (a = X.env.locals ∨ X.env.cells.lookup x = some a)) → Q () s') (hf : X.fn x = true ∨ X.env.scope.names.lookup x = some .local := by first | exact .inl rfl | exact .inr rfl | assumption) : wpAny M A (storeName X.env x u) Q E s := by
  obtain ⟨m, hn, hl⟩ := id I.loc
  have hcls : (X.env.scope.kind == .class || (X.env.scope.kind == .module && X.env.locals != X.env.globals)) = false := by rw [I.ok.kind]; rfl
  have hiσ : i < σ.length := by rw [I.len]; exact (List.getElem?_eq_some_iff.mp hi).1
  have cne := I.cne
  have tracked : ∀ {a : Addr} {h' : Heap}, (∃ o, s.heap.get? a = some o ∧ H a = none) → Heap.SameBut a s.heap h' → HOk X.prog X.w H h' := fun {a h'} ha hs b ob e => by
    obtain ⟨_, _, hfree⟩ := ha
    refine (I.hok b ob e).stay (fun c w' hc q => (hs.2 c ?_).trans q) (fun _ q => q) fun _ _ q => q
    rintro rfl
    rcases hc with rfl | hc
    · rw [hfree] at e; cases e
    · rw [hfree] at hc; cases hc
  rcases hx with hk | hk
  · refine wpAny_storeName_local hk hn (fun h' hn' hs => ?_) hcls
    obtain ⟨oL, _, _, hoL, _⟩ := id hn
    refine h _ ⟨I.ok, I.os, I.bare, ⟨fun b o e n hb hx => ?_, fun b o e n hb hx => ?_, I.base.free, fun b o e hx => ?_, I.base.tups, I.base.frzs, I.base.tbls⟩, ⟨_, hn', fun j y v' e1 e2 e3 => ?_⟩, fun y c e => ?_, I.free, I.freeC, fun p hp => ?_, tracked ⟨oL, hoL, I.free⟩ hs, by simpa using I.len⟩ ⟨_, hs, .inl rfl⟩
    · exact (hs.2 b (Nat.ne_of_lt (Nat.lt_of_lt_of_le (Heap.lt_size e) I.ok.above))).trans (I.base.keep b o e n hb hx)
    · obtain ⟨sl, e1⟩ := I.base.slot b o e n hb hx
      exact ⟨sl, (hs.2 b (Nat.ne_of_lt (Nat.lt_of_lt_of_le (Heap.lt_size e) I.ok.above))).trans e1⟩
    · obtain ⟨o', e1⟩ := I.base.there b o e hx
      exact ⟨o', (hs.2 b (Nat.ne_of_lt (Nat.lt_of_lt_of_le (Heap.lt_size e) I.ok.above))).trans e1⟩
    · by_cases hj : j = i
      · subst hj
        rw [hi] at e1; cases e1
        rw [List.getElem?_set_self hiσ] at e2
        cases e2
        exact ⟨u, r, .inl ⟨hk, by simp⟩⟩
      · rw [List.getElem?_set_ne (Ne.symm hj)] at e2
        obtain ⟨u', r', q⟩ := hl j y v' e1 e2 e3
        refine ⟨u', r', ?_⟩
        rcases q with ⟨k, e⟩ | ⟨k, c, e, z⟩
        · refine .inl ⟨k, ?_⟩
          have : y ≠ x := fun e => hj (nodup_ix hN e1 (e ▸ hi))
          simp [this, e]
        · exact .inr ⟨k, c, e, z.sameBut hs (cne y c e)⟩
    · obtain ⟨w', z⟩ := I.cell y c e
      exact ⟨w', z.sameBut hs (cne y c e)⟩
    · obtain ⟨e, n, ne, nf, d⟩ := I.pin p hp
      exact ⟨(hs.2 p.1 ne).trans e, n, ne, nf, d⟩
  · have hfn : X.fn x = true := by
      rcases hf with z | z
      · exact z
      · rw [z] at hk; cases hk
    obtain ⟨c, hc⟩ := I.ok.has x (.inl hk)
    obtain ⟨w', z⟩ := I.cell x c hc
    refine wpAny_storeName_cell I.ok.kind hk hc z (fun h' hc' hs => ?_)
    obtain ⟨oc, hoc, hocd⟩ := id z
    refine h { s with heap := h' } ⟨I.ok, I.os, I.bare, ⟨fun b o e n hb hx => ?_, fun b o e n hb hx => ?_, I.base.free, fun b o e hx => ?_, I.base.tups, I.base.frzs, I.base.tbls⟩, ⟨m, hn.sameBut hs (Ne.symm (cne x c hc)), fun j y v' e1 e2 e3 => ?_⟩, fun y c' e => ?_, I.free, I.freeC, fun p hp => ?_, tracked ⟨oc, hoc, I.freeC x c hc⟩ hs, by simpa using I.len⟩ ⟨c, hs, .inr hc⟩
    · exact (hs.2 b (Nat.ne_of_lt (Nat.lt_of_lt_of_le (Heap.lt_size e) (I.ok.cab x c hfn hc)))).trans (I.base.keep b o e n hb hx)
    · obtain ⟨sl, e1⟩ := I.base.slot b o e n hb hx
      exact ⟨sl, (hs.2 b (Nat.ne_of_lt (Nat.lt_of_lt_of_le (Heap.lt_size e) (I.ok.cab x c hfn hc)))).trans e1⟩
    · obtain ⟨o', e1⟩ := I.base.there b o e hx
      exact ⟨o', (hs.2 b (Nat.ne_of_lt (Nat.lt_of_lt_of_le (Heap.lt_size e) (I.ok.cab x c hfn hc)))).trans e1⟩
    · by_cases hj : j = i
      · subst hj
        rw [hi] at e1; cases e1
        rw [List.getElem?_set_self hiσ] at e2
        cases e2
        exact ⟨u, r, .inr ⟨.inl hk, c, hc, hc'⟩⟩
      · rw [List.getElem?_set_ne (Ne.symm hj)] at e2
        obtain ⟨u', r', q⟩ := hl j y v' e1 e2 e3
        refine ⟨u', r', ?_⟩
        rcases q with q | ⟨k, c', e, z'⟩
        · exact .inl q
        · refine .inr ⟨k, c', e, z'.sameBut hs ?_⟩
          rintro rfl
          exact hj (nodup_ix hN e1 (I.ok.inj _ _ _ e hc ▸ hi))
    · by_cases hcc : c' = c
      · subst hcc; exact ⟨_, hc'⟩
      · obtain ⟨w2, z2⟩ := I.cell y c' e
        exact ⟨w2, z2.sameBut hs hcc⟩
    · obtain ⟨e, n, ne, nf, d⟩ := I.pin p hp
      refine ⟨(hs.2 p.1 ?_).trans e, n, ne, nf, d⟩
      intro q
      rw [q, hoc] at e
      have q' : oc = p.2 := Option.some.inj e
      exact d w' (by rw [← q']; exact hocd)
theorem store_ok {M : Model} {A : Around} {E : Value → Shared → Prop} {i : Nat} {x : Str} {v : V} {u : Value} {Q : Unit → Shared → Prop} (I : Inv X pins σ H s) (hN : X.N.Nodup) (hi : X.N[i]? = some x) (hx : Loc X.env.scope x) (r : RelV v u)
    (h : ∀ s', Inv X pins (σ.set i (some v)) H s' → Q () s') (hf : X.fn x = true ∨ X.env.scope.names.lookup x = some .local := by first | exact .inl rfl | exact .inr rfl | assumption) : wpAny M A (storeName X.env x u) Q E s :=
  store_ok2 I hN hi hx r (fun s' I' _ => h s' I') hf
theorem Inv.call' {s' : Shared} {ch : List Addr} (I : Inv X pins σ H s) (ho : s'.os = s.os) (u : Un (frs X.stack) ch H H' s.heap s'.heap) (hok : HOk X.prog X.w H' s'.heap) (hg : AllBare s'.gens)
    (hch : ∀ b ∈ ch, (b ∈ X.ex ∨ X.s₀.heap.objs.size ≤ b) ∧ b ≠ X.env.locals ∧ (∀ x c, X.env.cells.lookup x = some c → c ≠ b) ∧ ∀ p ∈ X.pn ++ pins, p.1 ≠ b) : Inv X pins σ H' s' := by
  obtain ⟨h', g', d', t', o'⟩ := s'
  have e : o' = s.os := ho
  subst e
  exact I.call (g' := g') (t' := t') (d' := d') u hok hg hch
end
abbrev XK := Value → Option Addr → Hp → Prop
abbrev St := List (Option V)
abbrev VK := V → Hp → Prop
abbrev TE := St → Hp → VK → Prop
abbrev TT := St → Hp → (Bool → Hp → Prop) → Prop
abbrev TA := St → Hp → (List V → Hp → Prop) → Prop
structure Ends where
  nx : St → Hp → Prop
  rt : VK
  bk : St → Hp → Prop := fun _ _ => False
  ct : St → Hp → Prop := fun _ _ => False
abbrev TS := Ends → St → Hp → Prop
def EP (X : Cx) (pins : List (Addr × Obj)) (σ : St) (Q : VK) (u : Value) (s' : Shared) : Prop := ∃ v H', Inv X pins σ H' s' ∧ RelV v u ∧ Q v H'
def TP (X : Cx) (pins : List (Addr × Obj)) (σ : St) (Q : Bool → Hp → Prop) (b : Bool) (s' : Shared) : Prop := ∃ H', Inv X pins σ H' s' ∧ Q b H'
def AP (X : Cx) (pins : List (Addr × Obj)) (σ : St) (Q : List V → Hp → Prop) (us : List Value) (s' : Shared) : Prop := ∃ vs H', Inv X pins σ H' s' ∧ Vals vs us ∧ Q vs H'
def SP (X : Cx) (pins : List (Addr × Obj)) (D : Ends) (f : Flow) (s' : Shared) : Prop :=
  match f with
  | .next => ∃ σ' H', Inv X pins σ' H' s' ∧ D.nx σ' H'
  | .brk => ∃ σ' H', Inv X pins σ' H' s' ∧ D.bk σ' H'
  | .cont => ∃ σ' H', Inv X pins σ' H' s' ∧ D.ct σ' H'
  | .ret u => ∃ v σ' H', Inv X pins σ' H' s' ∧ RelV v u ∧ D.rt v H'
def PE (X : Cx) (e : Expr) (t : TE) : Prop :=
  ∀ (pins : List (Addr × Obj)) (s : Shared) (σ : St) (H : Hp) (Q : VK), Inv X pins σ H s → t σ H Q → wpAny (model X.prog X.w) X.A (eval e X.env) (EP X pins σ Q) X.xe s
def PT (X : Cx) (e : Expr) (t : TT) : Prop :=
  ∀ (pins : List (Addr × Obj)) (s : Shared) (σ : St) (H : Hp) (Q : Bool → Hp → Prop), Inv X pins σ H s → t σ H Q → wpAny (model X.prog X.w) X.A (isTrue e X.env (eval e X.env)) (TP X pins σ Q) X.xe s
def PW (X : Cx) (e : Expr) (t : TT) : Prop :=
  ∀ (whole : Sem Value) (pins : List (Addr × Obj)) (s : Shared) (σ : St) (H : Hp) (Q : Bool → Hp → Prop), Inv X pins σ H s → t σ H Q → wpAny (model X.prog X.w) X.A (isTrue e X.env whole) (TP X pins σ Q) X.xe s
theorem PW.pt {X : Cx} {e : Expr} {t : TT} (h : PW X e t) : PT X e t := h _
def PA (X : Cx) (es : List Expr) (t : TA) : Prop :=
  ∀ (pos : Pos) (pins : List (Addr × Obj)) (s : Shared) (σ : St) (H : Hp) (Q : List V → Hp → Prop), Inv X pins σ H s → t σ H Q → wpAny (model X.prog X.w) X.A (spliced (backTo pos (starEach es X.env))) (AP X pins σ Q) X.xe s
def PS (X : Cx) (st : Stmt) (t : TS) : Prop :=
  ∀ (pins : List (Addr × Obj)) (s : Shared) (σ : St) (H : Hp) (D : Ends), Inv X pins σ H s → t D σ H → wpAny (model X.prog X.w) X.A (exec st X.env) (SP X pins D) X.xe s
def PSs (X : Cx) (st : List Stmt) (t : TS) : Prop :=
  ∀ (pins : List (Addr × Obj)) (s : Shared) (σ : St) (H : Hp) (D : Ends), Inv X pins σ H s → t D σ H → wpAny (model X.prog X.w) X.A (execs st X.env) (SP X pins D) X.xe s
theorem thn {α : Type} {t : Sem α} {Q Q' : α → Shared → Prop} {M : Model} {A : Around} {E : Value → Shared → Prop} {s : Shared} (h : wpAny M A t Q E s) (hQ : ∀ a s, Q a s → Q' a s) : wpAny M A t Q' E s := wpAny_mono h hQ fun _ _ x => x
end L2
namespace L2
open PySem PySem.Spec PyProof.Rows
section
variable {X : Cx}
theorem bin {a b : Expr} {ta tb : TE} (ha : PE X a ta) (hb : PE X b tb) {pins : List (Addr × Obj)} {s : Shared} {σ : St} {H : Hp} {R : V → V → Hp → Prop} (I : Inv X pins σ H s) (h : ta σ H fun x H1 => tb σ H1 fun y H2 => R x y H2)
    {α : Type} {Q : α → Shared → Prop} {f : Value → Value → Sem α}
    (hf : ∀ v u s2 x y H2, Inv X pins σ H2 s2 → RelV x v → RelV y u → R x y H2 → wpAny (model X.prog X.w) X.A (f v u) Q X.xe s2) :
    wpAny (model X.prog X.w) X.A (eval a X.env) (fun v s₁ => wpAny (model X.prog X.w) X.A (eval b X.env) (fun u s₂ => wpAny (model X.prog X.w) X.A (f v u) Q X.xe s₂) X.xe s₁) X.xe s := by
  refine thn (ha pins s σ H _ I h) fun v s1 ⟨x, H1, I1, r1, q1⟩ => ?_
  refine thn (hb pins s1 σ H1 _ I1 q1) fun u s2 ⟨y, H2, I2, r2, q2⟩ => ?_
  exact hf v u s2 x y H2 I2 r1 r2 q2
def tVar (i : Nat) : TE := fun σ H Q => ∃ v, σ[i]? = some (some v) ∧ Q v H
def tC (v : V) : TE := fun _ H Q => Q v H
theorem pe_var {i : Nat} {x : Str} {pos : Pos} (hN : X.N[i]? = some x) (hv : Vis X.env.scope x) (hd : (x == ("__debug__" : Str)) = false := by decide) (hcd : (x == ("__classdict__" : Str)) = false := by decide) : PE X (.Name x pos) (tVar i) := by
  intro pins s σ H Q I h
  obtain ⟨v, e, h⟩ := h
  obtain ⟨m, hn, hl⟩ := I.loc
  obtain ⟨u, r, l⟩ := hl i x v hN e hv
  have fin : EP X pins σ Q u s := ⟨v, H, I, r, h⟩
  rcases l with ⟨hk, hm⟩ | ⟨hk, c, hc, hcell⟩
  · exact wpAny_Name (wpAny_loadName_local I.ok.kind hk hn hm fin) hd
  · rcases hk with hk | hk
    · exact wpAny_Name (wpAny_loadName_cell I.ok.kind hk hc hcell fin) hd
    · exact wpAny_Name (wpAny_loadName_free I.ok.kind hk hc hcell fin hcd) hd
theorem pe_int {i j pos} : PE X (.Constant (.int i) j pos) (tC (.int i)) := fun _ _ _ H _ I h => wpAny_Constant_int ⟨.int i, H, I.tok _, ⟨_, rfl⟩, h⟩
theorem pe_bl {b j pos} : PE X (.Constant (.bool b) j pos) (tC (.bl b)) := fun _ _ _ H _ I h => Constant_bool ⟨.bl b, H, I, rfl, h⟩
theorem pe_str {x j pos} : PE X (.Constant (.str x) j pos) (tC (.str x)) := fun _ _ _ H _ I h => Calls.Constant_str ⟨.str x, H, I.tok _, ⟨_, rfl⟩, h⟩
def Gl (X : Cx) (x : Str) : Prop := X.env.kindOf x = some .globalImplicit
theorem ld_glob {E : Value → Shared → Prop} {pins : List (Addr × Obj)} {s : Shared} {σ : St} {H : Hp} {x : Str} {u : Value} {pos : Pos} {Q : Value → Shared → Prop} (I : Inv X pins σ H s) (hg : Gl X x) (hm : X.mg x = some u) (h : Q u s)
    (hd : (x == ("__debug__" : Str)) = false := by decide) : wpAny (model X.prog X.w) X.A (eval (.Name x pos) X.env) Q E s :=
  Calls.Name_function_global I.ok.kind hg (Calls.loadGlobal_global (by rw [I.ok.glob]; exact I.mod.glob.keeps I.bk) hm h) hd
theorem ld_blt {E : Value → Shared → Prop} {pins : List (Addr × Obj)} {s : Shared} {σ : St} {H : Hp} {x : Str} {u : Value} {pos : Pos} {Q : Value → Shared → Prop} (I : Inv X pins σ H s) (hg : Gl X x) (hm : X.mg x = none) (hv : bootBuiltins x = some u) (h : Q u s)
    (hn : x ≠ "__name__" := by decide) (hd : (x == ("__debug__" : Str)) = false := by decide) : wpAny (model X.prog X.w) X.A (eval (.Name x pos) X.env) Q E s := by
  obtain ⟨mb, h1, h2⟩ := I.mod.blt
  exact Calls.Name_function_global I.ok.kind hg (Calls.loadGlobal_builtin (by rw [I.ok.glob]; exact I.mod.glob.keeps I.bk) hm (by rw [I.ok.blt]; exact h1.keeps I.bk) ((h2 x hn).trans hv) h) hd
theorem pe_glob {x : Str} {v : V} {u : Value} {pos : Pos} (hg : Gl X x) (hm : X.mg x = some u) (r : RelV v u) (hd : (x == ("__debug__" : Str)) = false := by decide) : PE X (.Name x pos) (tC v) :=
  fun _ _ _ H _ I h => ld_glob I hg hm ⟨v, H, I, r, h⟩ hd
theorem pe_bltn {x : Str} {v : V} {u : Value} {pos : Pos} (hg : Gl X x) (hm : X.mg x = none) (hv : bootBuiltins x = some u) (r : RelV v u) (hn : x ≠ "__name__" := by decide) (hd : (x == ("__debug__" : Str)) = false := by decide) : PE X (.Name x pos) (tC v) :=
  fun _ _ _ H _ I h => ld_blt I hg hm hv ⟨v, H, I, r, h⟩ hn hd
variable {a b : Expr} {ta tb : TE} {pos : Pos}
def PC (X : Cx) (op : CmpOp) (a b : Expr) (t : TE) : Prop :=
  ∀ (pins : List (Addr × Obj)) (s : Shared) (σ : St) (H : Hp) (Q : VK), Inv X pins σ H s → t σ H Q →
    wpAny (model X.prog X.w) X.A (eval a X.env) (fun v s₁ => wpAny (model X.prog X.w) X.A (eval b X.env) (fun u s₂ => wpAny (model X.prog X.w) X.A (compareOp op v u) (EP X pins σ Q) X.xe s₂) X.xe s₁) X.xe s
theorem nobehind (b : Expr) {op : CmpOp} (h : op ≠ .In) (h2 : op ≠ .NotIn) : behindInMarks op b = false := by
  have e1 : (op == CmpOp.In) = false := by cases op <;> first | rfl | exact absurd rfl h
  have e2 : (op == CmpOp.NotIn) = false := by cases op <;> first | rfl | exact absurd rfl h2
  cases b <;> simp [behindInMarks, e1, e2]
def tB (t : TE) : TT := fun σ H Q => t σ H fun x H1 => ∃ c, x = .bl c ∧ Q c H1
theorem pt_cmp {op : CmpOp} {t : TE} (h : PC X op a b t) (h1 : behindInMarks op b = false := by first | exact nobehind _ (by decide) (by decide) | rfl) : PT X (.Compare a [op] [b] pos) (tB t) := by
  intro pins s σ H Q I hw
  refine wpAny_isTrue_Compare1 (thn (h pins s σ H _ I hw) fun v s1 h1 => thn h1 fun u s2 h2 => thn h2 fun c s3 ⟨x, H1, I1, r1, q1⟩ => ?_) h1
  obtain ⟨d, rfl, q⟩ := q1
  cases r1
  exact wpAny_truthy_bool ⟨H1, I1, q⟩
theorem pt_val {e : Expr} {t : TE} (h : PE X e t) (he : ∀ whole, isTrue e X.env whole = (do let v ← whole; standAt e.pos; holding [v] (truthy v)) := by intro _; rfl) : PT X e (tB t) := by
  intro pins s σ H Q I hw
  refine isTrue_plain (thn (h pins s σ H _ I hw) fun v s1 ⟨x, H1, I1, r1, q1⟩ => ?_) (he _)
  obtain ⟨d, rfl, q⟩ := q1
  cases r1
  exact wpAny_truthy_bool ⟨H1, I1, q⟩
variable {tA tB' : TT} {rest : List Expr}
def tAnd (t u : TT) : TT := fun σ H Q => t σ H fun c H1 => if c = true then u σ H1 Q else Q false H1
def tOr (t u : TT) : TT := fun σ H Q => t σ H fun c H1 => if c = true then Q true H1 else u σ H1 Q
def tNot (t : TT) : TT := fun σ H Q => t σ H fun c H1 => Q (!c) H1
theorem pw_and1 (ha : PT X a tA) : PW X (.BoolOp .And [a] pos) tA := by
  intro wh pins s σ H Q I h
  refine isTrue_and (thn (ha pins s σ H Q I h) fun c s1 e => ?_)
  cases c with
  | true => exact isTrue_and_nil e
  | false => exact e
theorem pw_or1 (ha : PT X a tA) : PW X (.BoolOp .Or [a] pos) tA := by
  intro wh pins s σ H Q I h
  refine isTrue_or (thn (ha pins s σ H Q I h) fun c s1 e => ?_)
  cases c with
  | false => exact isTrue_or_nil e
  | true => exact e
theorem pw_and (ha : PT X a tA) (hb : PW X (.BoolOp .And (b :: rest) pos) tB') : PW X (.BoolOp .And (a :: b :: rest) pos) (tAnd tA tB') := by
  intro wh pins s σ H Q I h
  refine isTrue_and (thn (ha pins s σ H _ I h) fun c s1 ⟨H1, I1, q1⟩ => ?_)
  cases c with
  | true => exact hb wh pins s1 σ H1 Q I1 q1
  | false => exact ⟨H1, I1, q1⟩
theorem pw_or (ha : PT X a tA) (hb : PW X (.BoolOp .Or (b :: rest) pos) tB') : PW X (.BoolOp .Or (a :: b :: rest) pos) (tOr tA tB') := by
  intro wh pins s σ H Q I h
  refine isTrue_or (thn (ha pins s σ H _ I h) fun c s1 ⟨H1, I1, q1⟩ => ?_)
  cases c with
  | true => exact ⟨H1, I1, q1⟩
  | false => exact hb wh pins s1 σ H1 Q I1 q1
theorem pt_not (ha : PT X a tA) : PT X (.UnaryOp .Not a pos) (tNot tA) := by
  intro pins s σ H Q I h
  exact isTrue_not (ha pins s σ H (fun c H1 => Q (!c) H1) I h)
def tAndV (ta tb : TE) : TE := fun σ H Q => ta σ H fun x H1 => ∃ c, x = .bl c ∧ if c = true then tb σ H1 Q else Q (.bl false) H1
def tNotV (ta : TE) : TE := fun σ H Q => ta σ H fun x H1 => ∃ c, x = .bl c ∧ Q (.bl (!c)) H1
theorem pe_one {op} {t : TE} (h : PE X a t) : PE X (.BoolOp op [a] pos) t := fun pins s σ H Q I hw => BoolOp_one (h pins s σ H Q I hw)
theorem pe_and (ha : PE X a ta) (hb : PE X (.BoolOp .And (b :: rest) pos) tb) : PE X (.BoolOp .And (a :: b :: rest) pos) (tAndV ta tb) := by
  intro pins s σ H Q I h
  refine BoolOp_and (thn (ha pins s σ H _ I h) fun v s1 ⟨x, H1, I1, r1, q1⟩ => ?_)
  obtain ⟨c, rfl, q1⟩ := q1
  cases r1
  refine wpAny_truthy_bool ?_
  cases c with
  | true => exact hb pins s1 σ H1 Q I1 q1
  | false => exact ⟨.bl false, H1, I1, rfl, q1⟩
theorem pe_not (ha : PE X a ta) : PE X (.UnaryOp .Not a pos) (tNotV ta) := by
  intro pins s σ H Q I h
  refine UnaryOp_ (thn (ha pins s σ H _ I h) fun v s1 ⟨x, H1, I1, r1, q1⟩ => ?_)
  obtain ⟨c, rfl, q1⟩ := q1
  cases r1
  exact not_of (wpAny_truthy_bool ⟨.bl (!c), H1, I1, rfl, q1⟩)
def tIf (t : TT) (ta tb : TE) : TE := fun σ H Q => t σ H fun c H1 => if c = true then ta σ H1 Q else tb σ H1 Q
theorem pe_ifExp {c : Expr} (hc : PT X c tA) (ha : PE X a ta) (hb : PE X b tb) : PE X (.IfExp c a b pos) (tIf tA ta tb) := by
  intro pins s σ H Q I h
  refine wpAny_IfExp (thn (hc pins s σ H _ I h) fun d s1 ⟨H1, I1, q1⟩ => ?_)
  cases d with
  | true => exact ha pins s1 σ H1 Q I1 q1
  | false => exact hb pins s1 σ H1 Q I1 q1
end
end L2
namespace L2
open PySem PySem.Spec PyProof.Rows
def SqL (K : PySem.W.Frag) (H : Hp) (a : Addr) (xs : List V) : Prop :=
  Rd H a (.lst xs) ∨
    ∃ (o : Obj) (its : Array Value) (n : Nat), K.lookup a = some o ∧ o.cls = .type "list" ∧ o.dict = none ∧ o.data = .seq its n ∧ its.size ≤ sizeLine ∧ Vals xs its.toList
def SqT (K : PySem.W.Frag) (H : Hp) (a : Addr) (xs : List V) : Prop :=
  Rd H a (.tup xs) ∨
    ∃ (o : Obj) (its : Array Value) (n : Nat), K.lookup a = some o ∧ o.cls = .type "tuple" ∧ o.data = .seq its n ∧ its.size ≤ sizeLine ∧ Vals xs its.toList
def absV : Value → Option V
  | .none => some .non
  | .bool b => some (.bl b)
  | .int i _ => some (.int i)
  | .str x _ => some (.str x)
  | .bytes b _ => some (.byt b)
  | .float b _ => some (.flt b)
  | .ref a => some (.ref a)
  | .type n => some (.ty n)
  | _ => none
theorem RelV.abs {x : V} {u : Value} (r : RelV x u) : absV u = some x := by
  cases x with
  | non => cases r; rfl
  | bl _ => cases r; rfl
  | int _ => obtain ⟨t, rfl⟩ := r; rfl
  | str _ => obtain ⟨t, rfl⟩ := r; rfl
  | byt _ => obtain ⟨t, rfl⟩ := r; rfl
  | flt _ => obtain ⟨t, rfl⟩ := r; rfl
  | ref _ => cases r; rfl
  | ty _ => cases r; rfl
theorem RelV.inj {x y : V} {u : Value} (r : RelV x u) (q : RelV y u) : x = y := Option.some.inj (r.abs.symm.trans q.abs)
theorem Vals.inj : ∀ {xs ys : List V} {us : List Value}, Vals xs us → Vals ys us → xs = ys
  | _, _, _, .nil, .nil => rfl
  | _, _, _, .cons r t, .cons r' t' => by rw [r.inj r', Vals.inj t t']
section
variable {X : Cx} {pins : List (Addr × Obj)} {σ : St} {H : Hp} {s : Shared} {a : Addr} {xs ys : List V}
theorem SqL.of {K : PySem.W.Frag} (h : H a = some (.lst xs)) : SqL K H a xs := .inl (.inl h)
theorem SqT.of {K : PySem.W.Frag} (h : H a = some (.tup xs)) : SqT K H a xs := .inl (.inl h)
theorem Inv.list (I : Inv X pins σ H s) (h : SqL X.K H a xs) : ∃ its : List Value, Vals xs its ∧ PlainL s.heap a its.toArray ∧ xs.length ≤ sizeLine := by
  rcases h with h | ⟨o, its, n, hk, hc, hd, hs, hz, r⟩
  · obtain ⟨z, its, n, r, e⟩ := h.ok I.hok
    exact ⟨its, r, ⟨_, n, e, rfl, rfl, rfl⟩, z⟩
  · refine ⟨its.toList, r, ⟨o, n, I.kIn a o hk, hc, hd, by simpa using hs⟩, ?_⟩
    have e := r.length
    simp only [Array.length_toList] at e
    omega
theorem Inv.tuple (I : Inv X pins σ H s) (h : SqT X.K H a xs) : ∃ its : List Value, Vals xs its ∧ IsTup s.heap a its.toArray ∧ xs.length ≤ sizeLine := by
  rcases h with h | ⟨o, its, n, hk, hc, hs, hz, r⟩
  · obtain ⟨z, its, r, p⟩ := h.ok I.hok
    exact ⟨its, r, p, z⟩
  · refine ⟨its.toList, r, ⟨o, I.kIn a o hk, hc, n, by simpa using hs⟩, ?_⟩
    have e := r.length
    simp only [Array.length_toList] at e
    omega
theorem Inv.list_inj (I : Inv X pins σ H s) (h : SqL X.K H a xs) (h' : SqL X.K H a ys) : xs = ys := by
  obtain ⟨its, r, ⟨o, n, e, _, _, d⟩, _⟩ := I.list h
  obtain ⟨its', r', ⟨o', n', e', _, _, d'⟩, _⟩ := I.list h'
  rw [e] at e'; cases e'
  rw [d] at d'
  injection d' with d1 _
  have : its = its' := by simpa using congrArg Array.toList d1
  subst this
  exact r.inj r'
theorem Inv.tuple_inj (I : Inv X pins σ H s) (h : SqT X.K H a xs) (h' : SqT X.K H a ys) : xs = ys := by
  obtain ⟨its, r, ⟨o, e, _, n, d⟩, _⟩ := I.tuple h
  obtain ⟨its', r', ⟨o', e', _, n', d'⟩, _⟩ := I.tuple h'
  rw [e] at e'; cases e'
  rw [d] at d'
  injection d' with d1 _
  have : its = its' := by simpa using congrArg Array.toList d1
  subst this
  exact r.inj r'
end
abbrev Cx.wish (X : Cx) (E : Value → Shared → Prop) : Cx := { X with xe := E }
abbrev Cx.nox (X : Cx) : Cx := X.wish fun _ _ => False
theorem Cx.Ok.wish {X : Cx} (ok : X.Ok) (E : Value → Shared → Prop) : (X.wish E).Ok :=
  ⟨ok.mod, ok.kind, ok.glob, ok.blt, ok.above, ok.inj, ok.has, ok.cab, ok.hd, ok.frames, ok.stk, ok.exf, ok.bs, ok.bsz, ok.noex, ok.exfs, ok.funs, ok.frf⟩
theorem Cx.Ok.unwish {X : Cx} {E : Value → Shared → Prop} (ok : (X.wish E).Ok) : X.Ok :=
  ⟨ok.mod, ok.kind, ok.glob, ok.blt, ok.above, ok.inj, ok.has, ok.cab, ok.hd, ok.frames, ok.stk, ok.exf, ok.bs, ok.bsz, ok.noex, ok.exfs, ok.funs, ok.frf⟩
section
variable {X : Cx} {pins : List (Addr × Obj)} {σ : St} {H : Hp} {s : Shared} {E : Value → Shared → Prop}
theorem Inv.wish (I : Inv X pins σ H s) (E : Value → Shared → Prop) : Inv (X.wish E) pins σ H s := ⟨I.ok.wish E, I.os, I.bare, I.base, I.loc, I.cell, I.free, I.freeC, I.pin, I.hok, I.len⟩
theorem Inv.unwish (I : Inv (X.wish E) pins σ H s) : Inv X pins σ H s := ⟨I.ok.unwish, I.os, I.bare, I.base, I.loc, I.cell, I.free, I.freeC, I.pin, I.hok, I.len⟩
theorem SP.unwish {D : Ends} {f : Flow} {s' : Shared} (h : SP (X.wish E) pins D f s') : SP X pins D f s' := by
  cases f with
  | next => obtain ⟨σ', H', I, q⟩ := h; exact ⟨σ', H', I.unwish, q⟩
  | brk => obtain ⟨σ', H', I, q⟩ := h; exact ⟨σ', H', I.unwish, q⟩
  | cont => obtain ⟨σ', H', I, q⟩ := h; exact ⟨σ', H', I.unwish, q⟩
  | ret u => obtain ⟨v, σ', H', I, r, q⟩ := h; exact ⟨v, σ', H', I.unwish, r, q⟩
theorem PSs.nox {st : List Stmt} {t : TS} (h : PSs X.nox st t) : PSs X st t := fun pins s σ H D I hw =>
  wpAny_mono (h pins s σ H D (I.wish _) hw) (fun _ _ q => q.unwish) fun _ _ z => False.elim z
end
section
variable {X : Cx} {st : Stmt} {rest : List Stmt} {t u : TS} {e : Expr} {te : TE} {pos : Pos}
def tNext : TS := fun D σ H => D.nx σ H
def tSeq (t u : TS) : TS := fun D σ H => t { D with nx := u D } σ H
theorem pss_nil : PSs X [] tNext := fun _ _ σ H _ I h => wpAny_execs_nil ⟨σ, H, I, h⟩
theorem pss_cons (h1 : PS X st t) (h2 : PSs X rest u) : PSs X (st :: rest) (tSeq t u) := by
  intro pins s σ H D I h
  refine wpAny_execs_cons (thn (h1 pins s σ H { D with nx := u D } I h) fun f s1 q => ?_)
  cases f with
  | next =>
    obtain ⟨σ', H', I', q⟩ := q
    exact h2 pins s1 σ' H' D I' q
  | ret v => exact q
  | brk => exact q
  | cont => exact q
theorem pss_one (h1 : PS X st t) : PSs X [st] t := by
  intro pins s σ H D I h
  refine wpAny_execs_cons (thn (h1 pins s σ H D I h) fun f s1 q => ?_)
  cases f with
  | next => exact wpAny_execs_nil q
  | ret v => exact q
  | brk => exact q
  | cont => exact q
theorem Inv.quiet {pins : List (Addr × Obj)} {σ : St} {H : Hp} {s : Shared} (I : Inv X pins σ H s) : interactive X.env = false := by simp [interactive, I.ok.kind]
def tDrop (te : TE) : TS := fun D σ H => te σ H fun _ H1 => D.nx σ H1
theorem ps_expr (he : PE X e te) (hs : swapsWith e none pos.line X.env = pure false := by rfl) : PS X (.Expr e pos) (tDrop te) := by
  intro pins s σ H D I h
  exact wpAny_Expr_any (thn (he pins s σ H _ I h) fun v s1 ⟨x, H1, I1, r1, q1⟩ => ⟨σ, H1, I1, q1⟩) I.quiet hs
def tRet (te : TE) : TS := fun D σ H => te σ H D.rt
theorem ps_ret (he : PE X e te) : PS X (.Return (some e) pos) (tRet te) := by
  intro pins s σ H D I h
  exact wpAny_Return_some (thn (he pins s σ H _ I h) fun v s1 ⟨x, H1, I1, r1, q1⟩ => ⟨x, σ, H1, I1, r1, q1⟩)
def tIfS (c : TT) (t u : TS) : TS := fun D σ H => c σ H fun b H1 => if b = true then t D σ H1 else u D σ H1
theorem ps_if {c : Expr} {a b : List Stmt} {tc : TT} (hc : PT X c tc) (ha : PSs X a t) (hb : PSs X b u) : PS X (.If c a b pos) (tIfS tc t u) := by
  intro pins s σ H D I h
  refine wpAny_If (thn (hc pins s σ H _ I h) fun d s1 ⟨H1, I1, q1⟩ => ?_)
  cases d with
  | true => exact ha pins s1 σ H1 D I1 q1
  | false => exact hb pins s1 σ H1 D I1 q1
def tNever : TS := fun _ _ _ => False
theorem ps_never : PS X st tNever := fun _ _ _ _ _ _ h => h.elim
end
abbrev TG := V → St → Hp → (St → Hp → Prop) → Prop
abbrev TGs := List V → St → Hp → (St → Hp → Prop) → Prop
def PG (X : Cx) (target : Expr) (t : TG) : Prop :=
  ∀ (pins : List (Addr × Obj)) (s : Shared) (σ : St) (H : Hp) (v : V) (u : Value) (Q : St → Hp → Prop), Inv X pins σ H s → RelV v u → t v σ H Q →
    wpAny (model X.prog X.w) X.A (assign target X.env u) (fun _ s' => ∃ σ' H', Inv X pins σ' H' s' ∧ Q σ' H') X.xe s
def PGs (X : Cx) (ts : List Expr) (t : TGs) : Prop :=
  ∀ (pins : List (Addr × Obj)) (s : Shared) (σ : St) (H : Hp) (vs : List V) (us : List Value) (Q : St → Hp → Prop), Inv X pins σ H s → Vals vs us → t vs σ H Q →
    wpAny (model X.prog X.w) X.A (assignInOrder ((assignEach ts X.env).map (·.2)) us) (fun _ s' => ∃ σ' H', Inv X pins σ' H' s' ∧ Q σ' H') X.xe s
section
variable {X : Cx} {pos : Pos}
def gName (i : Nat) : TG := fun v σ H Q => Q (σ.set i (some v)) H
theorem pg_name {i : Nat} {x : Str} (hN : X.N.Nodup) (hi : X.N[i]? = some x) (hx : Loc X.env.scope x) (hf : X.fn x = true ∨ X.env.scope.names.lookup x = some .local := by first | exact .inl rfl | exact .inr rfl | assumption) : PG X (.Name x pos) (gName i) := by
  intro pins s σ H v u Q I r h
  exact wpAny_assign_Name (store_ok I hN hi hx r (fun s' I' => ⟨_, H, I', h⟩) hf)
def gNil : TGs := fun vs σ H Q => vs = [] ∧ Q σ H
def gCons (t : TG) (u : TGs) : TGs := fun vs σ H Q => ∃ v r, vs = v :: r ∧ t v σ H fun σ' H' => u r σ' H' Q
theorem pgs_nil : PGs X [] gNil := by
  intro pins s σ H vs us Q I r h
  obtain ⟨e, h⟩ := h
  subst e
  cases r
  exact assignInOrder_nil ⟨σ, H, I, h⟩
theorem pgs_cons {e : Expr} {es : List Expr} {t : TG} {u : TGs} (h1 : PG X e t) (h2 : PGs X es u)
    (hs : (assignEach (e :: es) X.env).map (·.2) = assign e X.env :: (assignEach es X.env).map (·.2) := by rfl) : PGs X (e :: es) (gCons t u) := by
  intro pins s σ H vs us Q I r h
  obtain ⟨v, vr, e1, h⟩ := h
  subst e1
  cases r with
  | cons r rr =>
    rw [hs]
    refine assignInOrder_cons (thn (h1 pins s σ H _ _ _ I r h) fun _ s1 ⟨σ1, H1, I1, q1⟩ => ?_)
    exact h2 pins s1 σ1 H1 _ _ Q I1 rr q1
def gTup (K : PySem.W.Frag) (n : Nat) (t : TGs) : TG := fun v σ H Q => ∃ a xs, v = .ref a ∧ SqT K H a xs ∧ xs.length = n ∧ t xs σ H Q
theorem pg_tup {es : List Expr} {k : Nat} {t : TGs} {n : Nat} (hc : X.calm = true) (h : PGs X es t)
    (hn : (assignEach es X.env).length = n := by rfl) (hst : (assignEach es X.env).findIdx? (·.1) = none := by rfl) : PG X (.Tuple es k pos) (gTup X.K n t) := by
  intro pins s σ H v u Q I r hw
  obtain ⟨a, xs, e1, hq, hl, hw⟩ := hw
  subst e1
  cases r
  obtain ⟨its, rv, ht, hz⟩ := I.tuple hq
  refine assign_Tuple_tuple (I.ok.hd hc) ht (by simp [hn, ← hl, rv.length]) hst fun h' hx => ?_
  have I1 : Inv X pins σ H { s with heap := h' } := I.kept (t' := s.toks) fun b o e => hx b o (Nat.ne_of_lt (Heap.lt_size e)) e
  exact h pins _ σ H xs _ Q I1 (by simpa using rv) hw
def tAsg (te : TE) (g : TG) : TS := fun D σ H => te σ H fun x H1 => g x σ H1 D.nx
theorem ps_set {i : Nat} {x : Str} {e : Expr} {te : TE} {pos' : Pos} (hN : X.N.Nodup) (hi : X.N[i]? = some x) (hx : Loc X.env.scope x) (he : PE X e te) (hs : swapsWith e (some (.Name x pos')) pos.line X.env = pure false := by rfl) (hf : X.fn x = true ∨ X.env.scope.names.lookup x = some .local := by first | exact .inl rfl | exact .inr rfl | assumption) :
    PS X (.Assign [.Name x pos'] e pos) (tAsg te (gName i)) := by
  intro pins s σ H D I h
  refine wpAny_Assign_Name (thn (he pins s σ H _ I h) fun v s1 ⟨y, H1, I1, r1, q1⟩ => ?_) hs
  exact store_ok I1 hN hi hx r1 (fun s2 I2 => ⟨_, H1, I2, q1⟩) hf
end
section
variable {X : Cx} {pos : Pos}
end
structure It where
  go : Nat → Hp → Prop
  yld : Nat → Hp → V → Hp → Prop
  stop : Nat → Hp → Prop
def FpOk (X : Cx) (pins : List (Addr × Obj)) (H : Hp) (b : Addr) : Prop :=
  H b = none ∧ b ≠ X.env.locals ∧ b ∉ X.fs ∧ (b ∈ X.ex ∨ X.s₀.heap.objs.size ≤ b) ∧ (∀ x c, X.env.cells.lookup x = some c → c ≠ b) ∧ ∀ p ∈ X.pn ++ pins, p.1 ≠ b
theorem Inv.fpOk {X : Cx} {pins : List (Addr × Obj)} {σ : St} {H H' : Hp} {s : Shared} {b : Addr} (I : Inv X pins σ H s) (hb : s.heap.objs.size ≤ b) (hn : H' b = none) : FpOk X pins H' b := by
  refine ⟨hn, Nat.ne_of_gt (Nat.lt_of_lt_of_le I.lt hb), I.nofs hb, .inr (Nat.le_trans I.sz hb), fun x c e z => ?_, fun p hp z => ?_⟩
  · obtain ⟨v, q⟩ := I.cell x c e
    exact absurd (Nat.lt_of_lt_of_le q.lt (by rw [z]; exact hb)) (Nat.lt_irrefl _)
  · exact absurd (Nat.lt_of_lt_of_le (Heap.lt_size (I.pin p hp).1) (by rw [z]; exact hb)) (Nat.lt_irrefl _)
structure Turn (P : Program) (w : World) (K : PySem.W.Frag) (tg : Expr) (J : It) (fp : List Addr) (it : Addr) (tn : Nat → Heap → Prop) : Prop where
  mem : it ∈ fp
  obj : ∀ i h, tn i h → ∀ b ∈ fp, ∃ o, h.get? b = some o ∧ ∀ v, o.data ≠ .cell v
  keep : ∀ i h h', tn i h → (∀ b ∈ fp, ∀ o, h.get? b = some o → h'.get? b = some o) → tn i h'
  item : ∀ (X : Cx), X.prog = P → X.w = w → X.K = K → X.calm = true → ∀ (i : Nat) (pins : List (Addr × Obj)) (s : Shared) (σ : St) (H : Hp) (E : Value → Shared → Prop), Inv X pins σ H s → (∀ b ∈ fp, FpOk X pins H b) → tn i s.heap → J.go i H →
    wpAny (model P w) X.A (pyNext (.ref it)) (fun r s1 => ∃ u, r = some u ∧
      wpAny (model P w) X.A (letOwnedTupleGo tg (.ref it) u) (fun _ s2 => ∃ x H', Inv X pins σ H' s2 ∧ RelV x u ∧ J.yld i H x H' ∧ tn (i + 1) s2.heap ∧ ∀ b ∈ fp, H' b = none) E s1) E s
  done : ∀ (X : Cx), X.prog = P → X.w = w → X.K = K → X.calm = true → ∀ (i : Nat) (pins : List (Addr × Obj)) (s : Shared) (σ : St) (H : Hp) (E : Value → Shared → Prop), Inv X pins σ H s → (∀ b ∈ fp, FpOk X pins H b) → tn i s.heap → J.stop i H →
    wpAny (model P w) X.A (pyNext (.ref it)) (fun r s1 => r = none ∧ Inv X pins σ H s1) E s
  self : ∀ (A : Around) (i : Nat) (s : Shared) (Q : Value → Shared → Prop) (E : Value → Shared → Prop), tn i s.heap → Q (.ref it) s → wpAny (model P w) A (pyIter (.ref it)) Q E s
abbrev TI := St → Hp → (It → Hp → Prop) → Prop
def PIE (X : Cx) (pins : List (Addr × Obj)) (σ : St) (tg : Expr) (R : It → Hp → Prop) (itv : Value) (s2 : Shared) : Prop :=
  ∃ (it : Addr) (fp : List Addr) (tn : Nat → Heap → Prop) (J : It) (H' : Hp), itv = .ref it ∧ Inv X pins σ H' s2 ∧ Turn X.prog X.w X.K tg J fp it tn ∧ tn 0 s2.heap ∧ (∀ b ∈ fp, FpOk X pins H' b) ∧ R J H'
def PI (X : Cx) (tg iter : Expr) (wi : TI) : Prop :=
  ∀ (pins : List (Addr × Obj)) (s : Shared) (σ : St) (H : Hp) (R : It → Hp → Prop), Inv X pins σ H s → wi σ H R →
    wpAny (model X.prog X.w) X.A (eval iter X.env) (fun v s1 => wpAny (model X.prog X.w) X.A (pyIter v) (PIE X pins σ tg R) X.xe s1) X.xe s
theorem go_of {M : Model} {A : Around} {E : Value → Shared → Prop} {s : Shared} {tg : Expr} {it : Addr} {u : Value} {o : Obj} {n : String} {vs : Array Value} {Q : Unit → Shared → Prop} (ho : s.heap.get? it = some o) (hc : o.cls = .type n) (hd : o.data = .fields vs)
    (hn : ["enumerate", "zip", "dict_itemiterator", "dict_reverseitemiterator", "odict_iterator", "itertools.zip_longest", "itertools.pairwise"].contains n = false) (hQ : Q () s) : wpAny M A (letOwnedTupleGo tg (.ref it) u) Q E s := by
  unfold letOwnedTupleGo
  cases tg <;> first
    | exact wpAny_pure hQ
    | (cases u <;> first
        | exact wpAny_pure hQ
        | (refine wpAny_bind (wpAny_load ho ?_)
           rw [hc, hd]
           show wpAny M A (if (["enumerate", "zip", "dict_itemiterator", "dict_reverseitemiterator", "odict_iterator", "itertools.zip_longest", "itertools.pairwise"].contains n && vs[0]? == some (rawInt _)) = true then _ else _) Q E s
           rw [if_neg (by intro h; rw [hn, Bool.false_and] at h; cases h)]
           exact wpAny_pure hQ))
def Itl (K : PySem.W.Frag) (a : Addr) : It :=
  ⟨fun i H => ∃ xs x, SqL K H a xs ∧ xs[i]? = some x, fun i H x H' => H' = H ∧ ∀ xs, SqL K H a xs → xs[i]? = some x, fun i H => ∃ xs, SqL K H a xs ∧ xs.length ≤ i⟩
def Itt (K : PySem.W.Frag) (a : Addr) : It :=
  ⟨fun i H => ∃ xs x, SqT K H a xs ∧ xs[i]? = some x, fun i H x H' => H' = H ∧ ∀ xs, SqT K H a xs → xs[i]? = some x, fun i H => ∃ xs, SqT K H a xs ∧ xs.length ≤ i⟩
def Itr (lo : Int) (n : Nat) : It := ⟨fun i _ => i < n, fun i H x H' => H' = H ∧ x = .int (lo + i), fun i _ => n ≤ i⟩
theorem turn_list {P : Program} {w : World} {K : PySem.W.Frag} {tg : Expr} (a it : Addr) : Turn P w K tg (Itl K a) [it] it (fun i h => h.IsListIter it a i) where
  mem := by simp
  obj := fun i h st b hb => by
    have e : b = it := by simpa using hb
    subst e
    obtain ⟨o, e, c, d⟩ := st
    exact ⟨o, e, fun v z => by rw [d] at z; cases z⟩
  keep := fun i h h' st k => st.at fun o e => k it (by simp) o e
  item := by
    intro X hP hw hK hc i pins s σ H E I hf st hg
    subst hP hw hK
    obtain ⟨xs, x, hq, hx⟩ := hg
    obtain ⟨its, rv, p, hz⟩ := I.list hq
    obtain ⟨u, hu, ru⟩ := rv.get hx
    obtain ⟨f0, f1, f2, f3, f4, f5⟩ := hf it (by simp)
    refine wpAny_pyNext_list_item st p.isList (x := u) (by simpa using hu) fun h' st' sb => ?_
    have I1 : Inv X pins σ H { s with heap := h' } := I.turned (t' := s.toks) (fun b o hb e => (sb.2 b hb).trans e) f0 f1 f3 f4 f5
    obtain ⟨o, e, c, d⟩ := id st'
    exact ⟨u, rfl, go_of (s := { s with heap := h' }) e c d (by decide) ⟨x, H, I1, ru, ⟨rfl, fun ys hy => by rw [I.list_inj hy hq]; exact hx⟩, st', fun b hb => (hf b hb).1⟩⟩
  done := by
    intro X hP hw hK hc i pins s σ H E I hf st hg
    subst hP hw hK
    obtain ⟨xs, hq, hx⟩ := hg
    obtain ⟨its, rv, p, hz⟩ := I.list hq
    obtain ⟨f0, f1, f2, f3, f4, f5⟩ := hf it (by simp)
    have hl := rv.length
    exact wpAny_pyNext_list_end (I.ok.hd hc) st p.isList (by simp; omega) fun h' eb => ⟨rfl, I.turned (t' := s.toks) (fun b o hb e => eb b o hb e) f0 f1 f3 f4 f5⟩
  self := fun _ _ _ _ _ st h => wpAny_pyIter_listiter st h
theorem turn_tuple {P : Program} {w : World} {K : PySem.W.Frag} {tg : Expr} (a it : Addr) : Turn P w K tg (Itt K a) [it] it (fun i h => h.IsTupleIter it a i) where
  mem := by simp
  obj := fun i h st b hb => by
    have e : b = it := by simpa using hb
    subst e
    obtain ⟨o, e, c, d⟩ := st
    exact ⟨o, e, fun v z => by rw [d] at z; cases z⟩
  keep := fun i h h' st k => st.at fun o e => k it (by simp) o e
  item := by
    intro X hP hw hK hc i pins s σ H E I hf st hg
    subst hP hw hK
    obtain ⟨xs, x, hq, hx⟩ := hg
    obtain ⟨its, rv, p, hz⟩ := I.tuple hq
    obtain ⟨u, hu, ru⟩ := rv.get hx
    obtain ⟨f0, f1, f2, f3, f4, f5⟩ := hf it (by simp)
    refine wpAny_pyNext_tuple_item st (show s.heap.IsTuple a its.toArray from p) (x := u) (by simpa using hu) fun h' st' sb => ?_
    have I1 : Inv X pins σ H { s with heap := h' } := I.turned (t' := s.toks) (fun b o hb e => (sb.2 b hb).trans e) f0 f1 f3 f4 f5
    obtain ⟨o, e, c, d⟩ := id st'
    exact ⟨u, rfl, go_of (s := { s with heap := h' }) e c d (by decide) ⟨x, H, I1, ru, ⟨rfl, fun ys hy => by rw [I.tuple_inj hy hq]; exact hx⟩, st', fun b hb => (hf b hb).1⟩⟩
  done := by
    intro X hP hw hK hc i pins s σ H E I hf st hg
    subst hP hw hK
    obtain ⟨xs, hq, hx⟩ := hg
    obtain ⟨its, rv, p, hz⟩ := I.tuple hq
    obtain ⟨f0, f1, f2, f3, f4, f5⟩ := hf it (by simp)
    have hl := rv.length
    exact wpAny_pyNext_tuple_end (I.ok.hd hc) st (show s.heap.IsTuple a its.toArray from p) (by simp; omega) fun h' eb => ⟨rfl, I.turned (t' := s.toks) (fun b o hb e => eb b o hb e) f0 f1 f3 f4 f5⟩
  self := fun _ _ _ _ _ st h => wpAny_pyIter_tupleiter st h
theorem turn_range {P : Program} {w : World} {K : PySem.W.Frag} {tg : Expr} (it : Addr) (lo : Int) (n : Nat) : Turn P w K tg (Itr lo n) [it] it (fun i h => IsRangeIter h it (lo + (i : Nat) * 1) ((n : Int) - (i : Nat)) 1) where
  mem := by simp
  obj := fun i h st b hb => by
    have e : b = it := by simpa using hb
    subst e
    exact ⟨_, st, fun v z => by
      have z' : Data.fields _ = Data.cell v := z
      cases z'⟩
  keep := fun i h h' st k => k it (by simp) _ st
  item := by
    intro X hP hw hK hc i pins s σ H E I hf st hg
    subst hP hw hK
    obtain ⟨f0, f1, f2, f3, f4, f5⟩ := hf it (by simp)
    have W := Walks.range (prog := X.prog) (w := X.w) (I.ok.hd hc) it lo 1 n
    refine W.item i s _ _ hg st fun v h' tk hv st' kk => ?_
    obtain ⟨t, rfl⟩ := hv
    have I1 : Inv X pins σ H { s with heap := h', toks := tk } := I.turned (fun b o hb e => kk b o (by simpa using hb) e) f0 f1 f3 f4 f5
    refine ⟨_, rfl, go_of (s := { s with heap := h', toks := tk }) (n := "range_iterator") st' rfl rfl (by decide) ⟨.int (lo + i), H, I1, ⟨t, ?_⟩, ⟨rfl, rfl⟩, st', fun b hb => (hf b hb).1⟩⟩
    rw [Int.mul_one]
  done := by
    intro X hP hw hK hc i pins s σ H E I hf st hg
    subst hP hw hK
    obtain ⟨f0, f1, f2, f3, f4, f5⟩ := hf it (by simp)
    exact wpAny_pyNext_range_end (I.ok.hd hc) st (by have : n ≤ i := hg; omega) fun h' eb => ⟨rfl, I.turned (t' := s.toks) (fun b o hb e => eb b o hb e) f0 f1 f3 f4 f5⟩
  self := fun _ _ _ _ _ st h => wpAny_pyIter_rangeiter st h
end L2
namespace L2
open PySem PySem.Spec PyProof.Rows
section
variable {X : Cx} {tg : Expr}
theorem range_it {pins : List (Addr × Obj)} {σ : St} {H : Hp} {s : Shared} {R : It → Hp → Prop} {E : Value → Shared → Prop} {lo hi : Int} {t u v : Tok} {tk : Nat} (I : Inv X pins σ H s) (h1 : -(2 ^ 62) ≤ lo) (h2 : lo < 2 ^ 62) (h3 : -(2 ^ 62) ≤ hi) (h4 : hi < 2 ^ 62)
    (q : R (Itr lo (hi - lo).toNat) H) : wpAny (model X.prog X.w) X.A (pyIter (.ref s.heap.objs.size)) (PIE X pins σ tg R) E { s with heap := s.heap.push { cls := .type "range", data := .fields #[.int lo t, .int hi u, .int 1 v] }, toks := tk } := by
  refine wpAny_pyIter_range (IsRange.new ..) (small_one h1 h2 h3 h4) ?_
  have I1 : Inv X pins σ H { s with heap := s.heap.push { cls := .type "range", data := .fields #[.int lo t, .int hi u, .int 1 v] }, toks := tk } := I.kept fun b o e => Heap.get?_push_of_some _ e
  refine ⟨(s.heap.push { cls := .type "range", data := .fields #[.int lo t, .int hi u, .int 1 v] }).objs.size, [(s.heap.push { cls := .type "range", data := .fields #[.int lo t, .int hi u, .int 1 v] }).objs.size], _, _, H, rfl,
    I1.kept (t' := tk) fun b o e => Heap.get?_push_of_some _ e, turn_range _ lo (hi - lo).toNat, ?_, fun b hb => ?_, q⟩
  · have e1 : lo + ((0 : Nat) : Int) * 1 = lo := by simp
    have e2 : (((hi - lo).toNat : Nat) : Int) - ((0 : Nat) : Int) = Builtin.Range.rangeSize lo hi 1 := by rw [rangeSize_one]; split <;> omega
    show IsRangeIter _ _ (lo + ((0 : Nat) : Int) * 1) ((((hi - lo).toNat : Nat) : Int) - ((0 : Nat) : Int)) 1
    rw [e1, e2]
    exact Heap.get?_push_size _ rfl
  · have e : b = (s.heap.push { cls := .type "range", data := .fields #[.int lo t, .int hi u, .int 1 v] }).objs.size := by simpa using hb
    subst e
    exact I1.fpOk (Nat.le_refl _) (I1.hok.fresh (Nat.le_refl _))
def iRng1 (ta : TA) : TI := fun σ H R => ta σ H fun vs H1 => ∃ j : Int, vs = [.int j] ∧ -(2 ^ 62) ≤ j ∧ j < 2 ^ 62 ∧ R (Itr 0 j.toNat) H1
def iRng2 (ta : TA) : TI := fun σ H R => ta σ H fun vs H1 => ∃ i j : Int, vs = [.int i, .int j] ∧ (-(2 ^ 62) ≤ i ∧ i < 2 ^ 62 ∧ -(2 ^ 62) ≤ j ∧ j < 2 ^ 62) ∧ R (Itr i (j - i).toNat) H1
theorem pi_range1 {a : Expr} {ta : TA} {p pos : Pos} (hg : Gl X "range") (hm : X.mg "range" = none) (ha : PA X [a] ta) (hs : starEach [a] X.env = [(false, eval a X.env)] := by rfl) : PI X tg (.Call (.Name "range" p) [a] [] pos) (iRng1 ta) := by
  intro pins s σ H R I h
  refine Call_ (ld_blt I hg hm boot_range (PyProof.Rows.callWith_type1 (thn (ha pos pins s σ H _ I h) fun us s1 ⟨vs, H1, I1, r1, q1⟩ => ?_) hs rfl))
  obtain ⟨j, e, q1, q2, q⟩ := q1
  subst e
  cases r1 with
  | cons r rr =>
    cases rr
    obtain ⟨t, rfl⟩ := r
    exact call_range_1 (range_it I1 (by omega) (by omega) q1 q2 (by simpa using q))
theorem pi_range2 {a b : Expr} {ta : TA} {p pos : Pos} (hg : Gl X "range") (hm : X.mg "range" = none) (ha : PA X [a, b] ta) (hs : starEach [a, b] X.env = [(false, eval a X.env), (false, eval b X.env)] := by rfl) (hs2 : starEach [b] X.env = [(false, eval b X.env)] := by rfl) :
    PI X tg (.Call (.Name "range" p) [a, b] [] pos) (iRng2 ta) := by
  intro pins s σ H R I h
  refine Call_ (ld_blt I hg hm boot_range (PyProof.Rows.callWith_type1 (thn (ha pos pins s σ H _ I h) fun us s1 ⟨vs, H1, I1, r1, q1⟩ => ?_) (by rw [hs, hs2]) (by rw [hs2]; rfl)))
  obtain ⟨i, j, e, ⟨q1, q2, q3, q4⟩, q⟩ := q1
  subst e
  cases r1 with
  | cons r rr =>
    cases rr with
    | cons r' rr =>
      cases rr
      obtain ⟨t, rfl⟩ := r
      obtain ⟨t', rfl⟩ := r'
      exact call_range_2 (range_it I1 q1 q2 q3 q4 q)
def tFor (wi : TI) (g : TG) (tb : TS) : TS := fun D σ H => wi σ H fun J H1 => ∃ W : Nat → Nat → St → Hp → Prop, (∃ m, W 0 m σ H1) ∧ ∀ i m σ H, W i m σ H →
  (J.stop i H ∧ D.nx σ H) ∨ (J.go i H ∧ ∃ N : St → Hp → Prop, (∀ σ' H', N σ' H' → ∃ m', m' < m ∧ W (i + 1) m' σ' H') ∧ ∀ x H', J.yld i H x H' → g x σ H' fun σ2 H2 => tb { D with nx := N, ct := N, bk := D.nx } σ2 H2)
def pinsAt (fp : List Addr) (h : Heap) : List (Addr × Obj) := fp.filterMap fun b => (h.get? b).map fun o => (b, o)
theorem mem_pinsAt {fp : List Addr} {h : Heap} {b : Addr} {o : Obj} (hb : b ∈ fp) (e : h.get? b = some o) : (b, o) ∈ pinsAt fp h := List.mem_filterMap.mpr ⟨b, hb, by rw [e]; rfl⟩
theorem of_pinsAt {fp : List Addr} {h : Heap} {p : Addr × Obj} (hp : p ∈ pinsAt fp h) : p.1 ∈ fp ∧ h.get? p.1 = some p.2 := by
  obtain ⟨b, hb, e⟩ := List.mem_filterMap.mp hp
  cases q : h.get? b with
  | none => rw [q] at e; cases e
  | some o =>
    rw [q] at e
    have e' : (b, o) = p := Option.some.inj e
    subst e'
    exact ⟨hb, q⟩
theorem Inv.pinned {pins : List (Addr × Obj)} {σ : St} {H : Hp} {s : Shared} {fp : List Addr} (I : Inv X pins σ H s) (hf : ∀ b ∈ fp, FpOk X pins H b) (ho : ∀ b ∈ fp, ∃ o, s.heap.get? b = some o ∧ ∀ v, o.data ≠ .cell v) : Inv X (pins ++ pinsAt fp s.heap) σ H s :=
  I.pins_of fun p hp => (List.mem_append.mp hp).elim (fun z => I.pin p (List.mem_append_right _ z)) fun z => by
    obtain ⟨hb, e⟩ := of_pinsAt z
    obtain ⟨f0, f1, f2, _⟩ := hf p.1 hb
    obtain ⟨o, e', d⟩ := ho p.1 hb
    rw [e] at e'; cases e'
    exact ⟨e, f0, f1, f2, d⟩
theorem Inv.unpinned {pins pl : List (Addr × Obj)} {σ : St} {H : Hp} {s : Shared} (I : Inv X (pins ++ pl) σ H s) : Inv X pins σ H s := I.pins_of fun p hp => I.pin p (List.mem_append_right _ (List.mem_append_left _ hp))
theorem ps_for {iter : Expr} {body : List Stmt} {wi : TI} {g : TG} {tb : TS} {pos : Pos} (hp : PassesOwn (model X.prog X.w) X.A X.env X.xe) (hc : X.calm = true) (hi : PI X tg iter wi) (hg : PG X tg g) (hb : PSs X body tb)
    (hs : ∀ x, foldedSetIterable iter X.env x = pure x := by intro _; rfl) : PS X (.For tg iter body [] pos) (tFor wi g tb) := by
  intro pins s σ H D I h
  refine wpAny_For (thn (hi pins s σ H _ I h) fun v s1 h1 => thn h1 fun itv s2 h2 => ?_) hs
  obtain ⟨it, fp, tn, J, H2, e, I2, T, st2, f2, W, ⟨m0, w0⟩, turn⟩ := h2
  subst e
  -- what stays true of the iterator's objects through the loop
  have stat : ∀ {H' : Hp}, (∀ b ∈ fp, H' b = none) → ∀ b ∈ fp, FpOk X pins H' b := fun hn b hb => ⟨hn b hb, (f2 b hb).2⟩
  refine codeAny_forLoop_any (fun n s' => ∃ i σ' H', Inv X pins σ' H' s' ∧ tn i s'.heap ∧ (∀ b ∈ fp, H' b = none) ∧ W i n σ' H') ?_ m0 ⟨0, σ, H2, I2, st2, fun b hb => (f2 b hb).1, w0⟩
  rintro n s3 ⟨i, σ3, H3, I3, st3, fr3, w3⟩
  rcases turn i n σ3 H3 w3 with ⟨stop, qn⟩ | ⟨go, N, hN, step⟩
  · refine wpAny_passesOwn hp (thn (T.done X rfl rfl rfl hc i pins s3 σ3 H3 X.xe I3 (stat fr3) st3 stop) fun r s4 ⟨hr, I4⟩ => ?_)
    subst hr
    exact wpAny_execs_nil ⟨σ3, H3, I4, qn⟩
  · refine wpAny_passesOwn hp (thn (T.item X rfl rfl rfl hc i pins s3 σ3 H3 X.xe I3 (stat fr3) st3 go) fun r s4 ⟨u, hr, h4⟩ => ?_)
    subst hr
    refine wpAny_passesOwn hp (thn h4 fun _ s5 ⟨x, H5, I5, r5, y5, st5, fr5⟩ => ?_)
    have I5' := I5.pinned (stat fr5) (T.obj _ _ st5)
    refine wpAny_passesOwn hp (thn (hg _ s5 σ3 H5 x u _ I5' r5 (step x H5 y5)) fun _ s6 ⟨σ6, H6, I6, q6⟩ => ?_)
    refine wpAny_passesOwn hp (thn (hb _ s6 σ6 H6 _ I6 q6) fun f s7 q7 => ?_)
    have again : ∀ {σ7 : St} {H7 : Hp}, Inv X (pins ++ pinsAt fp s5.heap) σ7 H7 s7 → N σ7 H7 → ∃ m, m < n ∧ ∃ i σ' H', Inv X pins σ' H' s7 ∧ tn i s7.heap ∧ (∀ b ∈ fp, H' b = none) ∧ W i m σ' H' := fun {σ7 H7} I7 n7 => by
      obtain ⟨m', hm, w7⟩ := hN σ7 H7 n7
      refine ⟨m', hm, i + 1, σ7, H7, I7.unpinned, T.keep _ _ _ st5 fun b hb o e => (I7.pin (b, o) (List.mem_append_right _ (List.mem_append_right _ (mem_pinsAt hb e)))).1, fun b hb => ?_, w7⟩
      obtain ⟨o, e, d⟩ := T.obj _ _ st5 b hb
      exact (I7.pin (b, o) (List.mem_append_right _ (List.mem_append_right _ (mem_pinsAt hb e)))).2.1
    cases f with
    | next => obtain ⟨σ7, H7, I7, n7⟩ := q7; exact again I7 n7
    | cont => obtain ⟨σ7, H7, I7, n7⟩ := q7; exact again I7 n7
    | brk => obtain ⟨σ7, H7, I7, q7⟩ := q7; exact ⟨σ7, H7, I7.unpinned, q7⟩
    | ret v => obtain ⟨x7, σ7, H7, I7, r7, q7⟩ := q7; exact ⟨x7, σ7, H7, I7.unpinned, r7, q7⟩
end
end L2
namespace L2
open PySem PySem.Spec PyProof.Rows
abbrev R2 := V → V → Hp → VK → Prop
def OpR (X : Cx) (f : Value → Value → Sem Value) (r : R2) : Prop :=
  ∀ (pins : List (Addr × Obj)) (s : Shared) (σ : St) (H : Hp) (x y : V) (v u : Value) (Q : VK), Inv X pins σ H s → RelV x v → RelV y u → r x y H Q →
    wpAny (model X.prog X.w) X.A (f v u) (EP X pins σ Q) X.xe s
def UnR (X : Cx) (f : Value → Sem Value) (r : V → Hp → VK → Prop) : Prop :=
  ∀ (pins : List (Addr × Obj)) (s : Shared) (σ : St) (H : Hp) (x : V) (v : Value) (Q : VK), Inv X pins σ H s → RelV x v → r x H Q →
    wpAny (model X.prog X.w) X.A (f v) (EP X pins σ Q) X.xe s
def CallR (X : Cx) (f : Value) (r : List V → Hp → VK → Prop) : Prop :=
  ∀ (pins : List (Addr × Obj)) (s : Shared) (σ : St) (H : Hp) (xs : List V) (us : List Value) (Q : VK), Inv X pins σ H s → Vals xs us → r xs H Q →
    wpAny (model X.prog X.w) X.A (call f us) (EP X pins σ Q) X.xe s
def tOp (r : R2) (ta tb : TE) : TE := fun σ H Q => ta σ H fun x H1 => tb σ H1 fun y H2 => r x y H2 Q
def tUn (r : V → Hp → VK → Prop) (ta : TE) : TE := fun σ H Q => ta σ H fun x H1 => r x H1 Q
def rI (C : Int → Int → Prop) (g : Int → Int → V) : R2 := fun x y H Q => ∃ i j, x = .int i ∧ y = .int j ∧ C i j ∧ Q (g i j) H
def rI0 (g : Int → Int → V) : R2 := fun x y H Q => ∃ i j, x = .int i ∧ y = .int j ∧ Q (g i j) H
def rU (g : Int → V) : V → Hp → VK → Prop := fun x H Q => ∃ i, x = .int i ∧ Q (g i) H
section
variable {X : Cx} {a b c : Expr} {ta tb tc : TE} {pos : Pos}
theorem binT (ha : PE X a ta) (hb : PE X b tb) {pins : List (Addr × Obj)} {s : Shared} {σ : St} {H : Hp} {R : V → V → Hp → Prop} (I : Inv X pins σ H s)
    (h : ta σ H fun x H1 => tb σ H1 fun y H2 => R x y H2) {Q : Value → Shared → Prop} {f : Value → Value → Sem Value}
    (hf : ∀ v u s2 x y H2, Inv X pins σ H2 s2 → RelV x v → RelV y u → R x y H2 → wpAny (model X.prog X.w) X.A (f v u) Q X.xe s2) :
    wpAny (model X.prog X.w) X.A (eval a X.env) (fun v s₁ => wpAny (model X.prog X.w) X.A (eval b X.env) (fun u s₂ => wpAny (model X.prog X.w) X.A (f v u) Q X.xe s₂) X.xe s₁) X.xe s := by
  refine thn (ha pins s σ H _ I h) fun v s1 ⟨x, H1, I1, r1, q1⟩ => ?_
  refine thn (hb pins s1 σ H1 _ I1 q1) fun u s2 ⟨y, H2, I2, r2, q2⟩ => ?_
  exact hf v u s2 x y H2 I2 r1 r2 q2
theorem pe_op {op : Operator} {r : R2} (ho : OpR X (binaryOp op) r) (ha : PE X a ta) (hb : PE X b tb) : PE X (.BinOp a op b pos) (tOp r ta tb) := by
  intro pins s σ H Q I h
  exact wpAny_BinOp (binT ha hb I h fun v u s2 x y H2 I2 rx ry q => ho pins s2 σ H2 x y v u Q I2 rx ry q)
theorem pe_un {op : UnaryOp} {r : V → Hp → VK → Prop} (ho : UnR X (unaryOp op) r) (ha : PE X a ta) : PE X (.UnaryOp op a pos) (tUn r ta) := by
  intro pins s σ H Q I h
  exact UnaryOp_ (thn (ha pins s σ H _ I h) fun v s1 ⟨x, H1, I1, r1, q1⟩ => ho pins s1 σ H1 x v Q I1 r1 q1)
theorem opI {f : Value → Value → Sem Value} {C : Int → Int → Prop} {g : Int → Int → Int}
    (rule : ∀ (i j : Int) (t u : Tok) (s : Shared) (Q : Value → Shared → Prop) (E : Value → Shared → Prop), C i j → Q (.int (g i j) s.toks) { s with toks := s.toks + 1 } → wpAny (model X.prog X.w) X.A (f (.int i t) (.int j u)) Q E s) :
    OpR X f (rI C fun i j => .int (g i j)) := by
  intro pins s σ H x y v u Q I rx ry h
  obtain ⟨i, j, rfl, rfl, hc, q⟩ := h
  obtain ⟨t, rfl⟩ := rx
  obtain ⟨t', rfl⟩ := ry
  exact rule i j t t' s _ _ hc ⟨.int (g i j), H, I.tok _, ⟨_, rfl⟩, q⟩
theorem opI0 {f : Value → Value → Sem Value} {g : Int → Int → Int}
    (rule : ∀ (i j : Int) (t u : Tok) (s : Shared) (Q : Value → Shared → Prop) (E : Value → Shared → Prop), Q (.int (g i j) s.toks) { s with toks := s.toks + 1 } → wpAny (model X.prog X.w) X.A (f (.int i t) (.int j u)) Q E s) :
    OpR X f (rI0 fun i j => .int (g i j)) := by
  intro pins s σ H x y v u Q I rx ry h
  obtain ⟨i, j, rfl, rfl, q⟩ := h
  obtain ⟨t, rfl⟩ := rx
  obtain ⟨t', rfl⟩ := ry
  exact rule i j t t' s _ _ ⟨.int (g i j), H, I.tok _, ⟨_, rfl⟩, q⟩
theorem opB0 {f : Value → Value → Sem Value} {g : Int → Int → Bool}
    (rule : ∀ (i j : Int) (t u : Tok) (s : Shared) (Q : Value → Shared → Prop) (E : Value → Shared → Prop), Q (.bool (g i j)) s → wpAny (model X.prog X.w) X.A (f (.int i t) (.int j u)) Q E s) :
    OpR X f (rI0 fun i j => .bl (g i j)) := by
  intro pins s σ H x y v u Q I rx ry h
  obtain ⟨i, j, rfl, rfl, q⟩ := h
  obtain ⟨t, rfl⟩ := rx
  obtain ⟨t', rfl⟩ := ry
  exact rule i j t t' s _ _ ⟨.bl (g i j), H, I, rfl, q⟩
theorem op_add : OpR X (binaryOp .Add) (rI0 fun i j => .int (i + j)) := opI0 fun _ _ _ _ _ _ _ q => add_int q
theorem op_sub : OpR X (binaryOp .Sub) (rI0 fun i j => .int (i - j)) := opI0 fun _ _ _ _ _ _ _ q => sub_int q
theorem op_mod : OpR X (binaryOp .Mod) (rI (fun _ j => 0 < j) fun i j => .int (i % j)) := opI fun i j _ _ _ _ _ hc q => by
  have h1 : (0 : Int) < j := hc
  exact mod_int' (by omega) (by rw [Int.fmod_eq_emod_of_nonneg i (by omega)]; exact q)
theorem unI {f : Value → Sem Value} {g : Int → Int}
    (rule : ∀ (i : Int) (t : Tok) (s : Shared) (Q : Value → Shared → Prop) (E : Value → Shared → Prop), Q (.int (g i) s.toks) { s with toks := s.toks + 1 } → wpAny (model X.prog X.w) X.A (f (.int i t)) Q E s) :
    UnR X f (rU fun i => .int (g i)) := by
  intro pins s σ H x v Q I rx h
  obtain ⟨i, rfl, q⟩ := h
  obtain ⟨t, rfl⟩ := rx
  exact rule i t s _ _ ⟨.int (g i), H, I.tok _, ⟨_, rfl⟩, q⟩
theorem un_neg : UnR X (unaryOp .USub) (rU fun i => .int (-i)) := unI fun _ _ _ _ _ q => neg_int q
end
section
variable {X : Cx} {a b c : Expr} {ta tb tc : TE} {pos : Pos}
theorem fin_bl {pins : List (Addr × Obj)} {σ : St} {H : Hp} {s : Shared} {Q : VK} {k k' : Bool} (I : Inv X pins σ H s) (q : Q (.bl k) H) (e : k = k') : EP X pins σ Q (.bool k') s := by
  subst e
  exact ⟨.bl k, H, I, rfl, q⟩
theorem op_lt : OpR X (compareOp .Lt) (rI0 fun i j => .bl (decide (i < j))) := opB0 fun _ _ _ _ _ _ _ q => lt_int q
theorem op_le : OpR X (compareOp .LtE) (rI0 fun i j => .bl (decide (i ≤ j))) := opB0 fun _ _ _ _ _ _ _ q => le_int q
theorem op_gt : OpR X (compareOp .Gt) (rI0 fun i j => .bl (decide (j < i))) := opB0 fun _ _ _ _ _ _ _ q => gt_int q
theorem op_ge : OpR X (compareOp .GtE) (rI0 fun i j => .bl (decide (j ≤ i))) := opB0 fun _ _ _ _ _ _ _ q => ge_int q
theorem op_in_str : OpR X (compareOp .In) (fun x y H Q => ∃ i j, x = .str i ∧ y = .str j ∧ Q (.bl (!(Builtin.Str.occurrences j i 0 j.length 1).isEmpty)) H) := by
  intro pins s σ H x y v u Q I rx ry h
  obtain ⟨i, j, rfl, rfl, q⟩ := h
  obtain ⟨t, rfl⟩ := rx
  obtain ⟨t', rfl⟩ := ry
  exact in_str (fin_bl I q rfl)
theorem op_notin_str : OpR X (compareOp .NotIn) (fun x y H Q => ∃ i j, x = .str i ∧ y = .str j ∧ Q (.bl (!(!(Builtin.Str.occurrences j i 0 j.length 1).isEmpty))) H) := by
  intro pins s σ H x y v u Q I rx ry h
  obtain ⟨i, j, rfl, rfl, q⟩ := h
  obtain ⟨t, rfl⟩ := rx
  obtain ⟨t', rfl⟩ := ry
  exact notIn_str (fin_bl I q rfl)
theorem OpR.or {f : Value → Value → Sem Value} {r r' : R2} (h : OpR X f r) (h' : OpR X f r') : OpR X f (fun x y H Q => r x y H Q ∨ r' x y H Q) := by
  intro pins s σ H x y v u Q I rx ry q
  rcases q with q | q
  · exact h pins s σ H x y v u Q I rx ry q
  · exact h' pins s σ H x y v u Q I rx ry q
theorem nomark (b : Expr) {op : CmpOp} (h : op ≠ .In := by decide) (h2 : op ≠ .NotIn := by decide) : behindInMarks op b = false := by
  have e1 : (op == CmpOp.In) = false := by cases op <;> first | rfl | exact absurd rfl h
  have e2 : (op == CmpOp.NotIn) = false := by cases op <;> first | rfl | exact absurd rfl h2
  cases b <;> simp [behindInMarks, e1, e2]
theorem pe_cmpR {op : CmpOp} {r : R2} (ho : OpR X (compareOp op) r) (ha : PE X a ta) (hb : PE X b tb) (hm : behindInMarks op b = false) : PE X (.Compare a [op] [b] pos) (tOp r ta tb) := by
  intro pins s σ H Q I h
  exact wpAny_Compare1 (binT ha hb I h fun v u s2 x y H2 I2 rx ry q => ho pins s2 σ H2 x y v u Q I2 rx ry q) hm
def tTest (t : TE) : TT := fun σ H Q => t σ H fun x H' => ∃ k, x = .bl k ∧ Q k H'
theorem pt_cmpR {op : CmpOp} {r : R2} (ho : OpR X (compareOp op) r) (ha : PE X a ta) (hb : PE X b tb) (hm : behindInMarks op b = false) : PT X (.Compare a [op] [b] pos) (tTest (tOp r ta tb)) := by
  intro pins s σ H Q I h
  refine wpAny_isTrue_Compare1 (thn (ha pins s σ H _ I h) fun v s1 ⟨x, H1, I1, r1, q1⟩ => thn (hb pins s1 σ H1 _ I1 q1) fun u s2 ⟨y, H2, I2, r2, q2⟩ =>
    thn (ho pins s2 σ H2 x y v u _ I2 r1 r2 q2) fun c s3 ⟨z, H3, I3, r3, k, e, q3⟩ => ?_) hm
  subst e
  cases r3
  exact wpAny_truthy_bool ⟨H3, I3, q3⟩
def tChain (r r' : R2) (ta tb tc : TE) : TE := fun σ H Q => ta σ H fun x H1 => tb σ H1 fun y H2 => r x y H2 fun z H3 => ∃ k, z = .bl k ∧
  (if k = true then tc σ H3 fun w' H4 => r' y w' H4 Q else Q (.bl false) H3)
theorem pt_chain {op op' : CmpOp} {r r' : R2} (ho : OpR X (compareOp op) r) (ho' : OpR X (compareOp op') r') (ha : PE X a ta) (hb : PE X b tb) (hc : PE X c tc)
    (hm : lastMarks [op, op'] [b, c] = false := by with_unfolding_all rfl) : PT X (.Compare a [op, op'] [b, c] pos) (tTest (tChain r r' ta tb tc)) := by
  intro pins s σ H Q I h
  refine isTrue_chain (thn (ha pins s σ H _ I h) fun v s1 ⟨x, H1, I1, r1, q1⟩ => test_link (thn (hb pins s1 σ H1 _ I1 q1) fun u s2 ⟨y, H2, I2, r2, q2⟩ =>
    thn (ho pins s2 σ H2 x y v u _ I2 r1 r2 q2) fun d s3 ⟨z, H3, I3, r3, k, e, q3⟩ => ?_)) hm
  subst e
  cases r3
  refine wpAny_truthy_bool ?_
  cases k with
  | false =>
    obtain ⟨k', e', q'⟩ := q3
    cases e'
    exact ite_ff ⟨H3, I3, q'⟩
  | true =>
    refine ite_tt (test_last (thn (hc pins s3 σ H3 _ I3 q3) fun w' s4 ⟨z', H4, I4, r4, q4⟩ => thn (ho' pins s4 σ H4 y z' u w' _ I4 r2 r4 q4) fun d' s5 ⟨z2, H5, I5, r5, k2, e2, q5⟩ => ?_))
    subst e2
    cases r5
    exact wpAny_truthy_bool ⟨H5, I5, q5⟩
theorem line63 : (sizeLine : Nat) < 2 ^ 63 := by rw [sizeLine_eq]; decide
theorem op_add_str : OpR X (binaryOp .Add) (fun x y H Q => ∃ i j, x = .str i ∧ y = .str j ∧ i.length + j.length ≤ sizeLine ∧ Q (.str (i ++ j)) H) := by
  intro pins s σ H x y v u Q I rx ry h
  obtain ⟨i, j, rfl, rfl, hz, q⟩ := h
  obtain ⟨t, rfl⟩ := rx
  obtain ⟨t', rfl⟩ := ry
  exact add_str (fun t' tk => ⟨.str (i ++ j), H, I.tok _, ⟨_, rfl⟩, q⟩) hz
theorem vals1 {x : V} {us : List Value} (r : Vals [x] us) : ∃ u, us = [u] ∧ RelV x u := by
  cases r with
  | cons r1 r2 => cases r2; exact ⟨_, rfl, r1⟩
theorem vals2 {x y : V} {us : List Value} (r : Vals [x, y] us) : ∃ u w', us = [u, w'] ∧ RelV x u ∧ RelV y w' := by
  cases r with
  | cons r1 r2 =>
    cases r2 with
    | cons r3 r4 => cases r4; exact ⟨_, _, rfl, r1, r3⟩
theorem call_max2 (hc : X.calm = true) : CallR X (.builtin "max") (fun xs H Q => ∃ i j, xs = [.int i, .int j] ∧ Q (.int (if j > i then j else i)) H) := by
  intro pins s σ H xs us Q I r h
  obtain ⟨i, j, rfl, q⟩ := h
  obtain ⟨u, w', rfl, ⟨t, rfl⟩, ⟨t', rfl⟩⟩ := vals2 r
  refine max_two_ints (I.ok.hd hc) fun h' tk k => ⟨_, H, I.kept k, ?_, q⟩
  by_cases hj : j > i
  · rw [if_pos hj, if_pos hj]; exact ⟨_, rfl⟩
  · rw [if_neg hj, if_neg hj]; exact ⟨_, rfl⟩
theorem call_min2 (hc : X.calm = true) : CallR X (.builtin "min") (fun xs H Q => ∃ i j, xs = [.int i, .int j] ∧ Q (.int (if j < i then j else i)) H) := by
  intro pins s σ H xs us Q I r h
  obtain ⟨i, j, rfl, q⟩ := h
  obtain ⟨u, w', rfl, ⟨t, rfl⟩, ⟨t', rfl⟩⟩ := vals2 r
  refine min_two_ints (I.ok.hd hc) fun h' tk k => ⟨_, H, I.kept k, ?_, q⟩
  by_cases hj : j < i
  · rw [if_pos hj, if_pos hj]; exact ⟨_, rfl⟩
  · rw [if_neg hj, if_neg hj]; exact ⟨_, rfl⟩
theorem call_int1 : CallR X (.type "int") (fun xs H Q => (∃ i, xs = [.int i] ∧ Q (.int i) H) ∨ ∃ k, xs = [.bl k] ∧ Q (.int (if k then 1 else 0)) H) := by
  intro pins s σ H xs us Q I r h
  rcases h with ⟨i, rfl, q⟩ | ⟨k, rfl, q⟩
  · obtain ⟨u, rfl, t, rfl⟩ := vals1 r
    exact call_int_int ⟨.int i, H, I, ⟨_, rfl⟩, q⟩
  · obtain ⟨u, rfl, r1⟩ := vals1 r
    cases r1
    exact call_int_bool ⟨.int (if k then 1 else 0), H, I.tok _, ⟨_, rfl⟩, q⟩
theorem call_str_int : CallR X (.type "str") (fun xs H Q => ∃ i, xs = [.int i] ∧ i.natAbs.log2 < 1920 ∧ Q (.str (toString i)) H) := by
  intro pins s σ H xs us Q I r h
  obtain ⟨i, rfl, hz, q⟩ := h
  obtain ⟨u, rfl, t, rfl⟩ := vals1 r
  exact PySem.P.str_of_int hz ⟨.str _, H, I.tok _, ⟨_, rfl⟩, q⟩
end
end L2
namespace L2
open PySem PySem.Spec PyProof.Rows
section
variable {prog : Program} {w : World} {A : Around} {E : Value → Shared → Prop} {s : Shared} {K : PySem.W.Frag} {x dx C f : Addr} {mA : Str → Option Value} {name : Str} {v : Value}
end
section
variable {P : Program} {w : World} {H H' : Hp} {h h' : Heap} {a C dx : Addr} {fs fs' : List (Str × V)}
end
section
variable {X : Cx} {pins : List (Addr × Obj)} {σ : St} {H : Hp} {s : Shared} {a C dx : Addr} {fs : List (Str × V)} {f : Str} {v : V} {A : Around} {E : Value → Shared → Prop}
end
section
variable {X : Cx} {o e value : Expr} {f : Str} {pos pos' tpos : Pos} {ta tv : TE}
end
section
variable {X : Cx} {pins : List (Addr × Obj)} {σ : St} {H : Hp} {s : Shared} {A : Around} {E : Value → Shared → Prop} {Q : Value → Shared → Prop} {c : Value} {b : Bool}
end
end L2
namespace L2
open PySem PySem.Spec PyProof.Rows
structure Room (k : Nat) (A : Around) : Prop where
  hd : A.handled = none
  dp : A.depth + 3 * k + 5 < recursionLimit
  un : A.units + 16 * k + 200 < cLine
theorem Room.mono {j k : Nat} {A : Around} (r : Room k A) (h : j ≤ k) : Room j A := ⟨r.hd, by have := r.dp; omega, by have := r.un; omega⟩
theorem Room.deeper {k : Nat} {A : Around} (r : Room (k + 1) A) (env : Env) : Room k (A.deeper env) :=
  ⟨r.hd, by have := r.dp; show A.depth + 1 + 3 * k + 5 < _; omega, by have := r.un; show A.units + 3 + 16 * k + 200 < _; omega⟩
theorem Room.depth {k : Nat} {A : Around} (r : Room k A) : A.depth < recursionLimit := by have := r.dp; omega
def tNil : TA := fun _ H Q => Q [] H
def tCons (ta : TE) (tr : TA) : TA := fun σ H Q => ta σ H fun x H1 => tr σ H1 fun xs H2 => Q (x :: xs) H2
section
variable {X : Cx} {e : Expr} {es : List Expr} {te : TE} {t : TA} {pos : Pos}
theorem pa_nil : PA X [] tNil := fun _ _ _ _ H Q I h => Calls.spliced_nil ⟨[], H, I, .nil, h⟩
theorem pa_cons (ha : PE X e te) (hr : PA X es t) (hs : starEach (e :: es) X.env = (false, eval e X.env) :: starEach es X.env := by rfl) : PA X (e :: es) (tCons te t) := by
  intro pos pins s σ H Q I h
  rw [hs]
  show wpAny _ _ (spliced ((false, eval e X.env) :: backTo pos (starEach es X.env))) _ _ s
  refine Calls.spliced_cons (thn (ha pins s σ H _ I h) fun u s1 ⟨x, H1, I1, r1, q1⟩ => ?_)
  exact thn (hr pos pins s1 σ H1 _ I1 q1) fun us s2 ⟨xs, H2, I2, r2, q2⟩ => ⟨x :: xs, H2, I2, .cons r1 r2, q2⟩
def tTup (t : TA) : TE := fun σ H Q => t σ H fun xs H1 => xs.length ≤ sizeLine ∧ ∀ p, H1 p = none → Q (.ref p) (upd H1 p (.tup xs))
def tLst (t : TA) : TE := fun σ H Q => t σ H fun xs H1 => xs.length ≤ sizeLine ∧ ∀ p, H1 p = none → Q (.ref p) (upd H1 p (.lst xs))
theorem pe_tup {x1} (h : PA X es t) : PE X (.Tuple es x1 pos) (tTup t) := by
  intro pins s σ H Q I hq
  refine wpAny_Tuple_spliced (thn (h pos pins s σ H _ I hq) fun us s1 ⟨xs, H1, I1, r, z, q⟩ => ⟨by rw [← r.length]; exact z, ?_⟩)
  have hf : H1 s1.heap.objs.size = none := I1.hok.fresh (Nat.le_refl _)
  refine ⟨.ref s1.heap.objs.size, upd H1 s1.heap.objs.size (.tup xs), I1.laid (t' := s1.toks) (fun b u e => Heap.get?_push_of_some _ e) (Nat.le_refl _) ?_, rfl, q _ hf⟩
  exact ⟨z, us, r, ⟨_, Heap.get?_push_size _ rfl, rfl, _, rfl⟩⟩
theorem pe_lst (h : PA X es t) : PE X (.List es pos) (tLst t) := by
  intro pins s σ H Q I hq
  refine wpAny_List_spliced (thn (h pos pins s σ H _ I hq) fun us s1 ⟨xs, H1, I1, r, z, q⟩ => ⟨by rw [← r.length]; exact z, ?_⟩)
  have hf : H1 s1.heap.objs.size = none := I1.hok.fresh (Nat.le_refl _)
  refine ⟨.ref s1.heap.objs.size, upd H1 s1.heap.objs.size (.lst xs), I1.laid (t' := s1.toks) (fun b u e => Heap.get?_push_of_some _ e) (Nat.le_refl _) ?_, rfl, q _ hf⟩
  exact ⟨z, us, 0, r, Heap.get?_push_size _ rfl⟩
end
abbrev Sp := List V → Hp → VK → XK → Prop
abbrev CXT := List Env → Hp → Shared → XK → Value → Shared → Prop
structure Env0 (P : Program) (w : World) (K : PySem.W.Frag) (mg : Str → Option Value) (base : Heap) (A : Around) (outer : List Env) (s : Shared) (H : Hp) : Prop where
  frames : A.frames = some outer
  mod : Mod K mg base
  bs : ∀ b o, base.get? b = some o → s.heap.get? b = some o ∧ H b = none
  bsz : base.objs.size ≤ s.heap.objs.size
  funs : s.heap.FunFrames base outer
  frf : ∀ b ∈ frs outer, H b = none
  hok : HOk P w H s.heap
  bare : AllBare s.gens
def CE (outer : List Env) (P : Program) (w : World) (H : Hp) (s : Shared) (Q : VK) (u : Value) (s' : Shared) : Prop :=
  ∃ v H', s'.os = s.os ∧ AllBare s'.gens ∧ Un (frs outer) [] H H' s.heap s'.heap ∧ HOk P w H' s'.heap ∧ RelV v u ∧ Q v H'
def CR (CX : CXT) (outer : List Env) (P : Program) (w : World) (H : Hp) (s : Shared) (Q : VK) (E : XK) (r : Result) (s' : Shared) : Prop :=
  match r with
  | .ok (.ret u) => CE outer P w H s Q u s'
  | .ok _ => False
  | .error e => CX outer H s E e s'
structure FnOk (P : Program) (w : World) (K : PySem.W.Frag) (mg : Str → Option Value) (base : Heap) (CX : CXT) (k : Nat) (f : Addr) (fd : FuncData) (ps : List Str) (sp : Sp) : Prop where
  len : ∀ vs H Q E, sp vs H Q E → vs.length = ps.length
  run : ∀ (A : Around) (outer : List Env) (s : Shared) (H : Hp) (args : Args) (us : List Value) (vs : List V) (Q : VK) (E : XK), Room k A → Env0 P w K mg base A outer s H → BindsTo s fd args (ps.zip us) → Vals vs us → sp vs H Q E →
    codeAny (model P w) A (.call (.ref f) args) (CR CX outer P w H s Q E) s
section
variable {X : Cx} {pins : List (Addr × Obj)} {σ : St} {H : Hp} {s s' : Shared}
theorem Inv.env0 (I : Inv X pins σ H s) : Env0 X.prog X.w X.K X.mg X.base X.A X.stack s H :=
  ⟨I.ok.frames, I.ok.mod, I.bs, Nat.le_trans I.ok.bsz I.sz, I.stack, I.stkFree, I.hok, I.bare⟩
theorem Inv.after {Q : VK} {u : Value} (I : Inv X pins σ H s) (h : CE X.stack X.prog X.w H s Q u s') : EP X pins σ Q u s' := by
  obtain ⟨v, H', os, bare, un, hok, r, q⟩ := h
  obtain ⟨hh, g, d, t, os'⟩ := s'
  obtain rfl : os' = s.os := os
  exact ⟨v, H', I.call (h' := hh) (g' := g) (d' := d) (t' := t) (ch := []) un hok bare (fun b z => absurd z (by simp)), r, q⟩
end
def tCall (sp : Sp) (dvs : List V) (E : XK) (t : TA) : TE := fun σ H Q => t σ H fun vs H1 => sp (vs ++ dvs) H1 Q E
def Binds (K : PySem.W.Frag) (fd : FuncData) (ps : List Str) (ds : List Value) : Prop :=
  ∀ (s : Shared) (us : List Value), K.In s.heap → (us ++ ds).length = ps.length → BindsTo s fd ⟨us, []⟩ (ps.zip (us ++ ds))
theorem Binds.all {K : PySem.W.Frag} {fd : FuncData} {ps : List Str} (h : ∀ us : List Value, us.length = ps.length → bindArgs fd ⟨us, []⟩ = pure (ps.zip us)) : Binds K fd ps [] := fun s us _ hl => by
  rw [List.append_nil] at hl ⊢
  exact .of_eq (h us hl)
def Passes (CX : CXT) (X : Cx) (E : XK) : Prop := ∀ (pins : List (Addr × Obj)) (σ : St) (H : Hp) (s : Shared) (e : Value) (s' : Shared), Inv X pins σ H s → CX X.stack H s E e s' → X.xe e s'
section
variable {X : Cx} {CX : CXT} {k : Nat} {f C : Addr} {fd : FuncData} {ps : List Str} {sp : Sp} {dvs : List V} {ds : List Value} {E : XK} {x m : Str} {p pos apos : Pos} {e o : Expr} {es : List Expr} {ta : TE} {t : TA}
theorem run_fn {pins : List (Addr × Obj)} {σ : St} {H : Hp} {s : Shared} {Q : VK} {us : List Value} {vs : List V} (F : FnOk X.prog X.w X.K X.mg X.base CX k f fd ps sp) (hr : Room k X.A) (hb : Binds X.K fd ps ds) (hd : Vals dvs ds) (hx : Passes CX X E)
    (I : Inv X pins σ H s) (r : Vals vs us) (h : sp (vs ++ dvs) H Q E) : wpAny (model X.prog X.w) X.A (call (.ref f) us) (EP X pins σ Q) X.xe s := by
  have r2 : Vals (vs ++ dvs) (us ++ ds) := r.append hd
  have hl : (us ++ ds).length = ps.length := by rw [← r2.length]; exact F.len _ _ _ _ h
  refine wpAny_call (codeAny_mono (F.run X.A X.stack s H ⟨us, []⟩ (us ++ ds) (vs ++ dvs) Q E hr I.env0 (hb s us I.kIn hl) r2 h) fun r s' hq => ?_)
  cases r with
  | error e => exact hx pins σ H s e s' I hq
  | ok fl =>
    cases fl with
    | ret u => exact I.after hq
    | next => exact False.elim hq
    | brk => exact False.elim hq
    | cont => exact False.elim hq
theorem pe_call (F : FnOk X.prog X.w X.K X.mg X.base CX k f fd ps sp) (hr : Room k X.A) (hg : Gl X x) (hm : X.mg x = some (.ref f)) (hk : PySem.W.keepIn X.K (.ref f) = true) (hb : Binds X.K fd ps ds) (hd : Vals dvs ds) (hx : Passes CX X E)
    (ha : PA X (e :: es) t) (hdb : (x == ("__debug__" : Str)) = false := by decide) (he : starEach (e :: es) X.env = (false, eval e X.env) :: starEach es X.env := by rfl) (hpl : (backTo pos (starEach es X.env)).any (·.1) = false := by rfl) :
    PE X (.Call (.Name x p) (e :: es) [] pos) (tCall sp dvs E t) := by
  intro pins s σ H Q I h
  refine wpAny_Call_Name_kw (ld_glob I hg hm ?_ hdb)
  refine PySem.W.callWith_K (h₀ := X.base) I.ok.mod.kin hk (thn (ha pos pins s σ H _ I h) fun us s1 ⟨vs, H1, I1, r, q⟩ => ⟨I1.kIn, ?_⟩) he hpl
  exact run_fn F hr hb hd hx I1 r q
end
section
variable {X : Cx} {CX : CXT} {k : Nat} {f C : Addr} {fd : FuncData} {ps ks : List Str} {sp : Sp} {E : XK} {x m : Str} {p pos apos kpos : Pos} {e o : Expr} {es : List Expr} {kws : List Keyword} {te ta : TE} {t tk : TA} {nm : Option Str}
variable {g : List Value → List Value → List Value} {gV : List V → List V → List V}
end
structure FnScope (N P : List Str) (sc : Scope) : Prop where
  kind : sc.kind = .function
  co : sc.isCoroutine = false
  gen : sc.isGenerator = false
  nd : N.Nodup
  pre : N.take P.length = P
  par : ∀ x ∈ P, sc.names.lookup x = some .local ∨ sc.names.lookup x = some .cell
  nofree : ∀ y ∈ sc.names, y.2 ≠ .free
theorem bindL_out {kindOf : Str → Option NameKind} {x : Str} : ∀ {binds : List (Str × Value)} {m : Str → Option Value}, (∀ v, (x, v) ∉ binds) → bindL kindOf binds m x = m x
  | [], _, _ => rfl
  | (n, v) :: r, m, h => by
    unfold bindL
    rw [bindL_out fun w hw => h w (List.mem_cons_of_mem _ hw)]
    split
    · have : x ≠ n := by rintro rfl; exact h v List.mem_cons_self
      simp [this]
    · rfl
theorem bindC_out {kindOf : Str → Option NameKind} {x : Str} : ∀ {binds : List (Str × Value)} {m : Str → Option Value}, (∀ v, (x, v) ∉ binds) → bindC kindOf binds m x = m x
  | [], _, _ => rfl
  | (n, v) :: r, m, h => by
    unfold bindC
    rw [bindC_out fun w hw => h w (List.mem_cons_of_mem _ hw)]
    split
    · rfl
    · have : x ≠ n := by rintro rfl; exact h v List.mem_cons_self
      simp [this]
theorem bindL_get {kindOf : Str → Option NameKind} {x : Str} {v : Value} : ∀ {P : List Str} {vs : List Value} {i : Nat} {m : Str → Option Value}, P.Nodup → P[i]? = some x → vs[i]? = some v → kindOf x = some .local →
    bindL kindOf (P.zip vs) m x = some v
  | [], _, _, _, _, h, _, _ => by simp at h
  | _ :: _, [], _, _, _, _, h, _ => by simp at h
  | p :: P, w :: vs, 0, m, nd, h1, h2, hk => by
    simp at h1 h2; subst h1; subst h2
    show bindL kindOf ((p, w) :: P.zip vs) m p = _
    unfold bindL
    rw [bindL_out fun v hv => (List.nodup_cons.mp nd).1 (List.of_mem_zip hv).1, if_pos hk]
    simp
  | p :: P, w :: vs, i + 1, m, nd, h1, h2, hk => by
    show bindL kindOf ((p, w) :: P.zip vs) m x = _
    unfold bindL
    exact bindL_get (i := i) (List.nodup_cons.mp nd).2 (by simpa using h1) (by simpa using h2) hk
theorem bindC_get {kindOf : Str → Option NameKind} {x : Str} {v : Value} : ∀ {P : List Str} {vs : List Value} {i : Nat} {m : Str → Option Value}, P.Nodup → P[i]? = some x → vs[i]? = some v → kindOf x ≠ some .local →
    bindC kindOf (P.zip vs) m x = some v
  | [], _, _, _, _, h, _, _ => by simp at h
  | _ :: _, [], _, _, _, _, h, _ => by simp at h
  | p :: P, w :: vs, 0, m, nd, h1, h2, hk => by
    simp at h1 h2; subst h1; subst h2
    show bindC kindOf ((p, w) :: P.zip vs) m p = _
    unfold bindC
    rw [bindC_out fun v hv => (List.nodup_cons.mp nd).1 (List.of_mem_zip hv).1, if_neg hk]
    simp
  | p :: P, w :: vs, i + 1, m, nd, h1, h2, hk => by
    show bindC kindOf ((p, w) :: P.zip vs) m x = _
    unfold bindC
    exact bindC_get (i := i) (List.nodup_cons.mp nd).2 (by simpa using h1) (by simpa using h2) hk
def start (N : List Str) (vs : List V) : St := vs.map some ++ List.replicate (N.length - vs.length) none
def cxOf (CX : CXT) (P : Program) (w : World) (K : PySem.W.Frag) (mg : Str → Option Value) (base : Heap) (N : List Str) (qual : Str) (scope : Scope) (f : Addr) (cd : Value) (A : Around) (outer : List Env) (s : Shared) (H : Hp) (E : XK) : Cx where
  prog := P
  w := w
  K := K
  mg := mg
  base := base
  A := A.deeper (envOfC qual scope s.heap.objs.size f cd)
  N := N
  s₀ := s
  H₀ := H
  env := envOfC qual scope s.heap.objs.size f cd
  outer := outer
  stack := envOfC qual scope s.heap.objs.size f cd :: outer
  ex := []
  calm := true
  fn := fun _ => true
  pn := []
  xe := fun e s' => wpAny (model P w) (A.deeper (envOfC qual scope s.heap.objs.size f cd)) (leaving (envOfC qual scope s.heap.objs.size f cd) e) (fun _ s'' => CX outer H s E e s'') (fun e' s'' => CX outer H s E e' s'') s'
theorem cell_has {sc : Scope} {n : Nat} {x : Str} (h : sc.names.lookup x = some .cell) : ∃ c, (cellsFrom n sc.names []).lookup x = some c := by
  have q := PySem.W.cellsFrom_some sc.names n [] (.inl h)
  exact Option.isSome_iff_exists.mp q
theorem inv_start {CX : CXT} {P : Program} {w : World} {K : PySem.W.Frag} {mg : Str → Option Value} {base : Heap} {N ps : List Str} {qual : Str} {scope : Scope} {f : Addr} {cd : Value} {A : Around} {outer : List Env} {s s1 : Shared} {H : Hp} {E : XK} {us : List Value} {vs : List V}
    (S : FnScope N ps scope) (hd : A.handled = none) (e0 : Env0 P w K mg base A outer s H) (hl : vs.length = ps.length) (r : Vals vs us)
    (x : InCallC s s.heap.objs.size (bindL (envOfC qual scope s.heap.objs.size f cd).kindOf (ps.zip us) fun _ => none) (cellsFrom (s.heap.objs.size + 1) scope.names []) (bindC (envOfC qual scope s.heap.objs.size f cd).kindOf (ps.zip us) fun _ => none) s1) :
    Inv (cxOf CX P w K mg base N qual scope f cd A outer s H E) [] (start N vs) H s1 := by
  have hpl : ps.length ≤ N.length := by have := congrArg List.length S.pre; rw [List.length_take] at this; omega
  obtain ⟨h1, tk, rfl, hk⟩ := x.done
  have noA : ∀ b : Addr, b ∉ (cxOf CX P w K mg base N qual scope f cd A outer s H E).ex := fun b z => absurd (show b ∈ ([] : List Addr) from z) (by simp)
  refine ⟨⟨e0.mod, S.kind, rfl, rfl, Nat.le_refl _, fun y z c h1 h2 => ?_, fun y hy => ?_, fun y c _ h => ?_, fun _ => hd, Around.frames_deeper e0.frames, .inr ⟨rfl, rfl⟩, fun b z => absurd z (noA b), e0.bs, e0.bsz, fun b _ _ => noA b, fun b z => absurd z (noA b), e0.funs, e0.frf⟩,
    rfl, e0.bare, Un.kept hk, ⟨_, x.toInCall.ns, fun i y v h1 h2 h3 => ?_⟩, fun y c h => ⟨_, x.cell y c h⟩, e0.hok.fresh (Nat.le_refl _), fun y c h => ?_, fun p hp => absurd (show p ∈ ([] : List (Addr × Obj)) from hp) (by simp), e0.hok.kept hk, ?_⟩
  · exact name_of_addr x.apart (PySem.mem_of_lookup h1) (PySem.mem_of_lookup h2)
  · have hy : scope.names.lookup y = some .cell ∨ scope.names.lookup y = some .free := hy
    rcases hy with hy | hy
    · exact cell_has hy
    · exact absurd rfl (S.nofree _ (PySem.mem_of_lookup hy))
  · exact Nat.le_of_lt (x.above y c (PySem.mem_of_lookup h))
  · have hi : i < vs.length := by
      unfold start at h2
      by_cases hi : i < vs.length
      · exact hi
      · rw [List.getElem?_append_right (by simpa using hi)] at h2
        rw [List.getElem?_replicate] at h2
        split at h2 <;> cases h2
    have ha : vs[i]? = some v := by
      unfold start at h2
      rw [List.getElem?_append_left (by simpa using hi), List.getElem?_map] at h2
      cases e : vs[i]? with
      | none => rw [e] at h2; cases h2
      | some a => rw [e] at h2; cases h2; rfl
    obtain ⟨u, hu, rv⟩ := r.get ha
    have hp : ps[i]? = some y := by
      rw [← S.pre, List.getElem?_take_of_lt (by omega)]; exact h1
    have ndP : ps.Nodup := by rw [← S.pre]; exact S.nd.sublist (List.take_sublist _ _)
    refine ⟨u, rv, ?_⟩
    rcases S.par y (List.mem_of_getElem? hp) with k | k
    · exact .inl ⟨k, bindL_get ndP hp hu k⟩
    · obtain ⟨c, e⟩ := cell_has (n := s.heap.objs.size + 1) k
      refine .inr ⟨.inl k, c, e, ?_⟩
      have q := x.cell y c e
      rw [bindC_get ndP hp hu (by show scope.names.lookup y ≠ _; rw [k]; decide)] at q
      exact q
  · exact e0.hok.fresh (Nat.le_of_lt (x.above y c (PySem.mem_of_lookup h)))
  · unfold start
    show _ = N.length
    rw [List.length_append, List.length_map, List.length_replicate]
    omega
theorem fn_of {CX : CXT} {P : Program} {w : World} {K : PySem.W.Frag} {mg : Str → Option Value} {base : Heap} {k : Nat} {f : Addr} {name qual : Str} {params : Arguments} {body : List Stmt} {scope : Scope} {dV kV doc pm cdv ct oc : Value} {an od : Option Addr}
    {osl : Array (Option Value)} {N ps : List Str} {sp : Sp} (lk : K.lookup f = some ⟨oc, od, .func (PySem.W.fnOf name qual params body scope dV kV doc pm an cdv ct), osl⟩) (hcd : PySem.W.codeIn K cdv qual = true) (S : FnScope N ps scope)
    (len : ∀ vs H Q E, sp vs H Q E → vs.length = ps.length)
    (hbody : ∀ (A : Around) (outer : List Env) (s : Shared) (H : Hp) (vs : List V) (Q : VK) (E : XK), Room k (A.deeper (envOfC qual scope s.heap.objs.size f cdv)) → sp vs H Q E →
      ∃ t, PSs (cxOf CX P w K mg base N qual scope f cdv A outer s H E) body t ∧ t { nx := fun _ H' => Q .non H', rt := Q } (start N vs) H) :
    FnOk P w K mg base CX (k + 1) f (PySem.W.fnOf name qual params body scope dV kV doc pm an cdv ct) ps sp := by
  refine ⟨len, fun A outer s H args us vs Q E hr e0 hb r hsp => ?_⟩
  have hl := len _ _ _ _ hsp
  have KX : K.In s.heap := e0.mod.kin.keeps fun b o e => (e0.bs b o e).1
  have lim : s.heap.NoLimit := e0.mod.nolimit.keeps fun b o e => (e0.bs b o e).1
  have hkind : ∀ y ∈ ps.zip us, scope.names.lookup y.1 = some .local ∨ (scope.names.lookup y.1 = some .cell ∧ ((cellsFrom (s.heap.objs.size + 1) scope.names []).lookup y.1).isSome = true) := fun ⟨n, v⟩ hy => by
    rcases S.par n (List.of_mem_zip hy).1 with q | q
    · exact .inl q
    · exact .inr ⟨q, PySem.W.cellsFrom_some _ _ _ (.inl q)⟩
  refine codeAny_call_function hr.depth (KX _ _ lk) rfl S.co S.gen rfl (PySem.W.codeRec_of KX hcd) (hb _ _ _ _ ?_)
  refine wpAny_newFunctionEnv_cells S.kind hkind fun env he s1 x => ?_
  subst he
  refine ⟨lim.keeps x.toInCall.keep, codeAny_func ?_⟩
  obtain ⟨t, ht, hq⟩ := hbody A outer s H vs Q E (hr.deeper _) hsp
  have I : Inv (cxOf CX P w K mg base N qual scope f cdv A outer s H E) [] (start N vs) H s1 := inv_start S hr.hd e0 hl r x
  refine wpAny_mono (ht [] s1 (start N vs) H _ I hq) (fun fl s' hs => ?_) fun e s' hs => hs
  have fin : ∀ {σ' : St} {H' : Hp} {v : V} {u : Value}, Inv (cxOf CX P w K mg base N qual scope f cdv A outer s H E) [] σ' H' s' → RelV v u → Q v H' → CE outer P w H s Q u s' :=
    fun {σ' H' v u} J rv q => ⟨v, H', J.os, J.bare, J.base, J.hok, rv, q⟩
  cases fl with
  | ret u =>
    obtain ⟨v, σ', H', J, rv, q⟩ := hs
    exact fin J rv q
  | next =>
    obtain ⟨σ', H', J, q⟩ := hs
    exact fin (v := V.non) (u := Value.none) J rfl q
  | brk =>
    obtain ⟨_, _, _, q⟩ := hs
    exact False.elim q
  | cont =>
    obtain ⟨_, _, _, q⟩ := hs
    exact False.elim q
end L2
namespace L2
open PySem PySem.Spec PyProof.Rows
section
variable {X : Cx} {x : Str} {p pos : Pos} {e : Expr} {es : List Expr} {t : TA} {id T : String} {r : List V → Hp → VK → Prop}
def tCB (r : List V → Hp → VK → Prop) (t : TA) : TE := fun σ H Q => t σ H fun vs H1 => r vs H1 Q
theorem pe_callB (hc : CallR X (.builtin id) r) (hg : Gl X x) (hm : X.mg x = none) (hv : bootBuiltins x = some (.builtin id)) (ha : PA X (e :: es) t) (hn : x ≠ "__name__" := by decide) (hdb : (x == ("__debug__" : Str)) = false := by decide)
    (he : starEach (e :: es) X.env = (false, eval e X.env) :: starEach es X.env := by rfl) (hpl : (backTo pos (starEach es X.env)).any (·.1) = false := by rfl) : PE X (.Call (.Name x p) (e :: es) [] pos) (tCB r t) := by
  intro pins s σ H Q I h
  refine wpAny_Call_Name_kw (ld_blt I hg hm hv ?_ hn hdb)
  exact PyProof.Rows.callWith_builtin1 (thn (ha pos pins s σ H _ I h) fun us s1 ⟨vs, H1, I1, r1, q1⟩ => hc pins s1 σ H1 vs us Q I1 r1 q1) he hpl
theorem pe_callTy (hc : CallR X (.type T) r) (hg : Gl X x) (hm : X.mg x = none) (hv : bootBuiltins x = some (.type T)) (ha : PA X (e :: es) t) (hn : x ≠ "__name__" := by decide) (hdb : (x == ("__debug__" : Str)) = false := by decide)
    (he : starEach (e :: es) X.env = (false, eval e X.env) :: starEach es X.env := by rfl) (hpl : (backTo pos (starEach es X.env)).any (·.1) = false := by rfl) : PE X (.Call (.Name x p) (e :: es) [] pos) (tCB r t) := by
  intro pins s σ H Q I h
  refine wpAny_Call_Name_kw (ld_blt I hg hm hv ?_ hn hdb)
  exact PyProof.Rows.callWith_type1 (thn (ha pos pins s σ H _ I h) fun us s1 ⟨vs, H1, I1, r1, q1⟩ => hc pins s1 σ H1 vs us Q I1 r1 q1) he hpl
end
end L2
namespace HT
open PySem PyProof.Rows
section
open PySem.SeqAt
open PySem.AutoSeq1 (wpAny_loadPart')
open PySem.MeetsSeq PySem.MeetsSeq2 PySem.MeetsSeq3
end
section
variable {prog : Program} {w : World} {A : Around} {E : Value → Shared → Prop} {s : Shared}
theorem cat_tup {t b : Addr} {vs ws : List Value} {Q : Value → Shared → Prop} (ht : IsTup s.heap t vs.toArray) (hb : IsTup s.heap b ws.toArray) (hv : vs ≠ [])
    (h1 : ws = [] → Q (.ref t) s) (h2 : ws ≠ [] → Q (.ref s.heap.objs.size) { s with heap := s.heap.push { cls := .type "tuple", data := .seq (vs ++ ws).toArray } })
    (hsz : vs.length + ws.length ≤ sizeLine) : wpAny (model prog w) A (binaryOp .Add (.ref t) (.ref b)) Q E s := by
  obtain ⟨⟨cls, dd, data, sl⟩, ho, hc, n, hd⟩ := id ht
  obtain ⟨⟨cls2, dd2, data2, sl2⟩, ho2, hc2, n2, hd2⟩ := id hb
  simp only at hc hd hc2 hd2
  subst hc hd hc2 hd2
  have e : vs.toArray ++ ws.toArray = (vs ++ ws).toArray := by simp
  by_cases hw : ws = []
  · exact concat_meets ⟨_, ho, rfl⟩ ⟨_, ho2, rfl⟩ noFill_tuple_add seq_tuple_add PySem.F.slot_tuple_add PySem.F.entry_tuple_add (PySem.F.args_tuple_add_2 _ _)
      (tuple_addW1 t b vs.toArray ws.toArray n n2 dd dd2 sl sl2 (by simpa using hv) (by simp [hw])) ⟨ho, ho2, h1 hw⟩
  · refine concat_meets ⟨_, ho, rfl⟩ ⟨_, ho2, rfl⟩ noFill_tuple_add seq_tuple_add PySem.F.slot_tuple_add PySem.F.entry_tuple_add (PySem.F.args_tuple_add_2 _ _)
      (tuple_addW2 t b vs.toArray ws.toArray n n2 dd dd2 sl sl2 (by simpa using hv) (by simpa using hw) (by rw [List.size_toArray, List.size_toArray]; exact hsz)) ⟨ho, ho2, ?_⟩
    rw [e]
    exact h2 hw
def sIx (n d : Nat) : Option Int → Nat
  | none => d
  | some v => if v < 0 then (v + (n : Int)).toNat else min v.toNat n
theorem sIx_none (n d : Nat) : sIx n d none = d := rfl
theorem sIx_nat (n d k : Nat) : sIx n d (some (k : Int)) = min k n := by
  show (if (k : Int) < 0 then ((k : Int) + (n : Int)).toNat else min (k : Int).toNat n) = min k n
  rw [if_neg (by omega), Int.toNat_natCast]
theorem sIx_le (n d : Nat) (hd : d ≤ n) (o : Option Int) : sIx n d o ≤ n := by
  cases o with
  | none => exact hd
  | some v =>
    show (if v < 0 then (v + (n : Int)).toNat else min v.toNat n) ≤ n
    by_cases hv : v < 0
    · rw [if_pos hv]; omega
    · rw [if_neg hv]; exact Nat.min_le_right _ _
theorem clip_eq (v : Int) (n d : Nat) : (if v < 0 then max (v + (n : Int)) 0 else min v (n : Int)) = ((sIx n d (some v) : Nat) : Int) := by
  show (if v < 0 then max (v + (n : Int)) 0 else min v (n : Int)) = (((if v < 0 then (v + (n : Int)).toNat else min v.toNat n) : Nat) : Int)
  by_cases hv : v < 0
  · simp only [if_pos hv]; omega
  · simp only [if_neg hv]; omega
theorem adjust_gen (lo hi : Option Int) (n : Nat) : Builtin.Slice.sliceAdjust lo hi 1 (n : Int) = (((sIx n 0 lo : Nat) : Int), ((sIx n n hi : Nat) : Int)) := by
  have h1 : ¬ ((1 : Int) < 0) := by omega
  unfold Builtin.Slice.sliceAdjust
  simp only [h1, if_false]
  refine Prod.ext ?_ ?_
  · cases lo with
    | none => rfl
    | some v => exact clip_eq v n 0
  · cases hi with
    | none => rfl
    | some v => exact clip_eq v n n
theorem places_gen (i j : Nat) : Builtin.Slice.slicePlaces (i : Int) (j : Int) 1 = j - i := by
  unfold Builtin.Slice.slicePlaces
  have h1 : (1 : Int) > 0 := by omega
  simp only [h1, if_true, Int.ediv_one]
  split <;> omega
theorem slicePart_ {v : Value} {o : Option Int} {Q : Option Int → Shared → Prop} (p : IsPart v o) (h : Q o s) : wpAny (model prog w) A (Builtin.Slice.slicePartIndex v) Q E s := by
  cases p with
  | none => exact slicePart_none h
  | int i t => exact slicePart_int h
theorem sliceApplied_gen {sl : Addr} {vl vu : Value} {lo hi : Option Int} {n : Nat} {Q : Int × Int × Nat → Shared → Prop} (hs : s.heap.IsSliceOf sl vl vu .none) (pl : IsPart vl lo) (pu : IsPart vu hi)
    (h : Q (((sIx n 0 lo : Nat) : Int), 1, sIx n n hi - sIx n 0 lo) s) : wpAny (model prog w) A (Builtin.Slice.sliceApplied (.ref sl) (pure (n : Int))) Q E s := by
  obtain ⟨os, hos, hcs, hds⟩ := id hs
  unfold Builtin.Slice.sliceApplied Builtin.Slice.sliceFields
  refine wpAny_bind (wpAny_bind (wpAny_field hos hds (x := vl) rfl (wpAny_bind (wpAny_field hos hds (x := vu) rfl (wpAny_bind (wpAny_field hos hds (x := .none) rfl (wpAny_pure ?_)))))))
  refine wpAny_bind (slicePart_none ?_)
  show wpAny _ _ (if ((1 : Int) == 0) = true then _ else _) _ _ s
  rw [if_neg (by decide)]
  refine wpAny_bind (slicePart_ pl (wpAny_bind (slicePart_ pu (wpAny_bind (wpAny_pure ?_)))))
  show wpAny _ _ (match Builtin.Slice.sliceAdjust lo hi 1 (n : Int) with | (lo, hi) => pure (lo, (1 : Int), Builtin.Slice.slicePlaces lo hi 1)) _ _ s
  rw [adjust_gen lo hi n]
  show wpAny _ _ (pure (((sIx n 0 lo : Nat) : Int), (1 : Int), Builtin.Slice.slicePlaces ((sIx n 0 lo : Nat) : Int) ((sIx n n hi : Nat) : Int) 1)) _ _ s
  rw [places_gen]
  exact wpAny_pure h
theorem pick_gen (xs : Array Value) (i k : Nat) : ((List.range k).filterMap fun (m : Nat) => xs[((i : Int) + (m : Int) * 1).toNat]?).toArray = ((xs.toList.drop i).take k).toArray := by
  have e : (fun (m : Nat) => xs[((i : Int) + (m : Int) * 1).toNat]?) = fun m => xs[i + m]? := by
    funext m
    have : ((i : Int) + (m : Int) * 1).toNat = i + m := by omega
    rw [this]
  rw [e]
  have := pick_run xs i k
  rw [List.filterMap_map] at this
  have e2 : ((fun x => xs[x]?) ∘ fun x => i + x) = fun m => xs[i + m]? := rfl
  rw [e2] at this
  rw [this]
theorem getItem_tuple_cut {t sl : Addr} {items : Array Value} {vl vu : Value} {lo hi : Option Int} {Q : Value → Shared → Prop} (ht : IsTup s.heap t items) (hs : s.heap.IsSliceOf sl vl vu .none) (pl : IsPart vl lo) (pu : IsPart vu hi)
    (hw : ¬ (sIx items.size 0 lo = 0 ∧ sIx items.size items.size hi = items.size))
    (h : Q (.ref s.heap.objs.size) { s with heap := s.heap.push { cls := .type "tuple", data := .seq ((items.toList.drop (sIx items.size 0 lo)).take (sIx items.size items.size hi - sIx items.size 0 lo)).toArray } })
    (hsz : items.size ≤ sizeLine) : wpAny (model prog w) A (getItem (.ref t) (.ref sl)) Q E s := by
  have htake : sizeOk (.seq ((items.toList.drop (sIx items.size 0 lo)).take (sIx items.size items.size hi - sIx items.size 0 lo)).toArray) := by
    show ((items.toList.drop (sIx items.size 0 lo)).take (sIx items.size items.size hi - sIx items.size 0 lo)).toArray.size ≤ sizeLine
    rw [List.size_toArray, List.length_take, List.length_drop, Array.length_toList]
    omega
  have hj : sIx items.size items.size hi ≤ items.size := sIx_le _ _ (Nat.le_refl _) hi
  obtain ⟨os, hos, hcs, hds⟩ := id hs
  have hTs : s.TypeIs (.ref sl) "slice" := ⟨os, hos, hcs⟩
  unfold getItem
  try with_reducible refine wpAny_holding ?_
  first | refine wpAny_bind (wpAny_pure ?_) | skip
  refine wpAny_bind (wpAny_sequenceKey ht.typeIs (by decide) ?_)
  refine wpAny_bind (wpAny_callSpecial?_slot (name := Str.ofString "__getitem__") ht.typeIs PyProof.Rows.slot_tuple_getitem
    (wpAny_call_entry PyProof.Rows.slot_tuple_getitem ht.typeIs entry_tuple_getitem ?_ (args_tuple_getitem _ _)))
  show wpAny _ _ (Builtin.Tuple.tupleItemsOf (.ref t) >>= _) _ _ s
  refine wpAny_bind (tupleItemsOf_ ht ?_)
  refine wpAny_bind (wpAny_typeOf hTs ?_)
  rw [if_pos (by decide)]
  refine wpAny_bind (sliceApplied_gen hs pl pu ?_)
  have hno : ¬ ((((sIx items.size 0 lo : Nat) : Int) == 0 && (1 : Int) == 1 && (sIx items.size items.size hi - sIx items.size 0 lo) == items.size) = true) := by
    intro q
    rw [Bool.and_eq_true, Bool.and_eq_true] at q
    have q1 : ((sIx items.size 0 lo : Nat) : Int) = 0 := eq_of_beq q.1.1
    have q2 : sIx items.size items.size hi - sIx items.size 0 lo = items.size := eq_of_beq q.2
    exact hw ⟨by omega, by omega⟩
  show wpAny _ _ (if (((sIx items.size 0 lo : Nat) : Int) == 0 && (1 : Int) == 1 && (sIx items.size items.size hi - sIx items.size 0 lo) == items.size) = true then _ else _) _ _ s
  rw [if_neg hno, pick_gen]
  first
    | exact wpAny_bind (m := Builtin.Tuple.tupleExact _) (wpAny_newObj_type (wpAny_pure ⟨_, rfl, wpAny_pure h⟩) htake)
    | exact wpAny_bind (m := Builtin.Tuple.tupleExact _) (wpAny_newObj_type (wpAny_bind (wpAny_pure (wpAny_pure ⟨_, rfl, wpAny_pure h⟩))) htake)
    | exact wpAny_bind (wpAny_bind (m := Builtin.Tuple.tupleExact _) (wpAny_newObj_type (wpAny_pure (wpAny_pure ⟨_, rfl, wpAny_pure h⟩)) htake))
    | exact wpAny_bind (wpAny_bind (m := Builtin.Tuple.tupleExact _) (wpAny_newObj_type (wpAny_pure ⟨_, rfl, wpAny_pure h⟩) htake))
end
end HT
namespace L2
open PySem PySem.Spec PyProof.Rows
abbrev TO := St → Hp → (Option Int → Hp → Prop) → Prop
def PO (X : Cx) (e : Option Expr) (t : TO) : Prop :=
  ∀ (pins : List (Addr × Obj)) (s : Shared) (σ : St) (H : Hp) (Q : Option Int → Hp → Prop), Inv X pins σ H s → t σ H Q →
    wpAny (model X.prog X.w) X.A (evalPart e X.env) (fun u s' => ∃ o H', Inv X pins σ H' s' ∧ IsPart u o ∧ Q o H') X.xe s
def tNoPart : TO := fun _ H Q => Q none H
def tPart (t : TE) : TO := fun σ H Q => t σ H fun x H1 => ∃ i, x = .int i ∧ Q (some i) H1
section
variable {X : Cx} {e : Expr} {te : TE} {lo hi : Option Expr} {tl th : TO} {pos p2 : Pos}
theorem po_none : PO X none tNoPart := by
  intro pins s σ H Q I h
  rw [evalPart_none]
  exact wpAny_pure ⟨none, H, I, .none, h⟩
theorem po_some (h : PE X e te) : PO X (some e) (tPart te) := by
  intro pins s σ H Q I hw
  rw [evalPart_some]
  refine thn (h pins s σ H _ I hw) fun u s1 ⟨x, H1, I1, r1, q1⟩ => ?_
  obtain ⟨i, rfl, q⟩ := q1
  obtain ⟨t, rfl⟩ := r1
  exact ⟨some i, H1, I1, .int i t, q⟩
def SlR (X : Cx) (r : V → Option Int → Option Int → Hp → VK → Prop) : Prop :=
  ∀ (pins : List (Addr × Obj)) (s : Shared) (σ : St) (H : Hp) (x : V) (v vl vu : Value) (lo hi : Option Int) (sl : Addr) (Q : VK), Inv X pins σ H s → RelV x v → s.heap.IsSliceOf sl vl vu .none → IsPart vl lo → IsPart vu hi → r x lo hi H Q →
    ∃ T id, typeLookup (.type T) "__getitem__" = pure (some (.builtin id)) ∧ s.TypeIs v T ∧ wpAny (model X.prog X.w) X.A (getItem v (.ref sl)) (EP X pins σ Q) X.xe s
theorem SlR.or {r r' : V → Option Int → Option Int → Hp → VK → Prop} (h : SlR X r) (h' : SlR X r') : SlR X (fun x lo hi H Q => r x lo hi H Q ∨ r' x lo hi H Q) := by
  intro pins s σ H x v vl vu lo hi sl Q I rx hs pl pu q
  rcases q with q | q
  · exact h pins s σ H x v vl vu lo hi sl Q I rx hs pl pu q
  · exact h' pins s σ H x v vl vu lo hi sl Q I rx hs pl pu q
def tSl (r : V → Option Int → Option Int → Hp → VK → Prop) (te : TE) (tl th : TO) : TE := fun σ H Q => te σ H fun x H1 => tl σ H1 fun l H2 => th σ H2 fun u H3 => r x l u H3 Q
theorem pe_slice {r : V → Option Int → Option Int → Hp → VK → Prop} (hr : SlR X r) (he : PE X e te) (hl : PO X lo tl) (hu : PO X hi th) : PE X (.Subscript e (.Slice lo hi none p2) pos) (tSl r te tl th) := by
  intro pins s σ H Q I h
  refine Subscript_ (thn (he pins s σ H _ I h) fun v s1 ⟨x, H1, I1, r1, q1⟩ => ?_)
  refine wpAny_Slice (thn (hl pins s1 σ H1 _ I1 q1) fun vl s2 ⟨l, H2, I2, pl, q2⟩ => thn (hu pins s2 σ H2 _ I2 q2) fun vu s3 ⟨u, H3, I3, pu, q3⟩ => ?_)
  rw [evalPart_none]
  refine wpAny_pure ?_
  have I4 : Inv X pins σ H3 { s3 with heap := s3.heap.push { cls := .type "slice", data := .fields #[vl, vu, .none] } } := I3.kept (t' := s3.toks) fun b ob q => Heap.get?_push_of_some _ q
  obtain ⟨T, id, hT, ht, hg⟩ := hr pins { s3 with heap := s3.heap.push { cls := .type "slice", data := .fields #[vl, vu, .none] } } σ H3 x v vl vu l u s3.heap.objs.size Q I4 r1 (Heap.IsSliceOf.new ..) pl pu q3
  show wpAny (model X.prog X.w) X.A (subscriptTail e (.Slice lo hi none p2) v (.ref s3.heap.objs.size)) (EP X pins σ Q) X.xe { s3 with heap := s3.heap.push { cls := .type "slice", data := .fields #[vl, vu, .none] } }
  exact tail_any (ops := [.ref s3.heap.objs.size, v]) ht hT hg (by with_unfolding_all rfl)
def cutV (xs : List V) (lo hi : Option Int) : List V := (xs.drop (HT.sIx xs.length 0 lo)).take (HT.sIx xs.length xs.length hi - HT.sIx xs.length 0 lo)
theorem cutV_length (xs : List V) (lo hi : Option Int) : (cutV xs lo hi).length ≤ xs.length := by
  unfold cutV
  rw [List.length_take, List.length_drop]
  omega
def rSlT (K : PySem.W.Frag) : V → Option Int → Option Int → Hp → VK → Prop := fun x lo hi H Q => ∃ a xs, x = .ref a ∧ SqT K H a xs ∧
  ¬ (HT.sIx xs.length 0 lo = 0 ∧ HT.sIx xs.length xs.length hi = xs.length) ∧ ∀ p, H p = none → Q (.ref p) (upd H p (.tup (cutV xs lo hi)))
theorem sl_tup : SlR X (rSlT X.K) := by
  intro pins s σ H x v vl vu lo hi sl Q I rx hs pl pu h
  obtain ⟨a, xs, rfl, hx, hw, q⟩ := h
  cases rx
  obtain ⟨its, r, ht, hz⟩ := I.tuple hx
  have hlen : its.toArray.size = xs.length := by rw [List.size_toArray]; exact r.length.symm
  refine ⟨"tuple", _, PyProof.Rows.slot_tuple_getitem.lookup, ht.typeIs, ?_⟩
  refine HT.getItem_tuple_cut ht hs pl pu (by rw [hlen]; exact hw) ?_ (by rw [hlen]; exact hz)
  rw [hlen]
  refine ⟨.ref s.heap.objs.size, _, I.laid (t' := s.toks) (o := .tup (cutV xs lo hi)) (fun b ob q => Heap.get?_push_of_some _ q) (Nat.le_refl _) ?_, rfl, q _ (I.hok.fresh (Nat.le_refl _))⟩
  exact ⟨Nat.le_trans (cutV_length xs lo hi) hz, _, (r.drop (HT.sIx xs.length 0 lo)).take (HT.sIx xs.length xs.length hi - HT.sIx xs.length 0 lo), IsTup.new _ _⟩
def rCatT (K : PySem.W.Frag) : R2 := fun x y H Q => ∃ a b xs ys, x = .ref a ∧ y = .ref b ∧ SqT K H a xs ∧ SqT K H b ys ∧ xs ≠ [] ∧ xs.length + ys.length ≤ sizeLine ∧
  (ys = [] → Q (.ref a) H) ∧ (ys ≠ [] → ∀ p, H p = none → Q (.ref p) (upd H p (.tup (xs ++ ys))))
theorem Vals.nil_iff {xs : List V} {us : List Value} (r : Vals xs us) : us = [] ↔ xs = [] := by
  cases r with
  | nil => simp
  | cons _ _ => simp
theorem op_catT : OpR X (binaryOp .Add) (rCatT X.K) := by
  intro pins s σ H x y v u Q I rx ry h
  obtain ⟨a, b, xs, ys, rfl, rfl, ha, hb, hx, hz, q1, q2⟩ := h
  cases rx
  cases ry
  obtain ⟨its, r1, p1, _⟩ := I.tuple ha
  obtain ⟨its2, r2, p2, _⟩ := I.tuple hb
  refine HT.cat_tup p1 p2 (fun z => hx (r1.nil_iff.mp z)) (fun z => ⟨.ref a, H, I, rfl, q1 (r2.nil_iff.mp z)⟩) (fun z => ?_) (by rw [← r1.length, ← r2.length]; exact hz)
  refine ⟨.ref s.heap.objs.size, _, I.laid (t' := s.toks) (o := .tup (xs ++ ys)) (fun b ob q => Heap.get?_push_of_some _ q) (Nat.le_refl _) ?_, rfl, q2 (fun w => z (r2.nil_iff.mpr w)) _ (I.hok.fresh (Nat.le_refl _))⟩
  exact ⟨by rw [List.length_append]; exact hz, _, r1.append r2, IsTup.new _ _⟩
end
end L2
namespace L2
open PySem PySem.Spec PyProof.Rows
def ixN (n : Nat) (i : Int) : Option Nat := if 0 ≤ i then (if i < n then some i.toNat else none) else if -(n : Int) ≤ i then some (i + n).toNat else none
def atI {α : Type} (xs : List α) (i : Int) : Option α := (ixN xs.length i).bind fun j => xs[j]?
theorem ixN_seq {n : Nat} {i : Int} {j : Nat} (h : ixN n i = some j) : seqIndex? i n = some j ∧ j < n ∧ -(n : Int) ≤ i ∧ i < n := by
  unfold ixN at h
  by_cases h0 : 0 ≤ i
  · rw [if_pos h0] at h
    by_cases h1 : i < n
    · rw [if_pos h1] at h
      have e : i.toNat = j := Option.some.inj h
      exact ⟨by rw [seqIndex_of h0 h1, e], by omega, by omega, h1⟩
    · rw [if_neg h1] at h; cases h
  · rw [if_neg h0] at h
    by_cases h1 : -(n : Int) ≤ i
    · rw [if_pos h1] at h
      have e : (i + n).toNat = j := Option.some.inj h
      exact ⟨by rw [seqIndex_neg (by omega) h1, e], by omega, h1, by omega⟩
    · rw [if_neg h1] at h; cases h
theorem atI_get {α : Type} {xs : List α} {i : Int} {v : α} (h : atI xs i = some v) : ∃ j, seqIndex? i xs.length = some j ∧ xs[j]? = some v ∧ j < xs.length ∧ -(xs.length : Int) ≤ i ∧ i < xs.length := by
  unfold atI at h
  cases e : ixN xs.length i with
  | none => rw [e] at h; cases h
  | some j =>
    rw [e] at h
    obtain ⟨h1, h2, h3, h4⟩ := ixN_seq e
    exact ⟨j, h1, h, h2, h3, h4⟩
theorem atI_nat {α : Type} {xs : List α} {j : Nat} {v : α} (h : xs[j]? = some v) : atI xs (j : Int) = some v := by
  have hj : j < xs.length := (List.getElem?_eq_some_iff.mp h).1
  have e : ixN xs.length (j : Int) = some j := by
    unfold ixN
    rw [if_pos (by omega), if_pos (by omega)]; simp
  unfold atI; rw [e]; exact h
def PlainIx (b : Expr) : Prop := ∀ o i, subscripted b false o i = operate [o, i] (getItem o i)
def IxR (X : Cx) (r : R2) : Prop :=
  ∀ (value slice : Expr) (pins : List (Addr × Obj)) (s : Shared) (σ : St) (H : Hp) (x y : V) (v u : Value) (Q : VK), Inv X pins σ H s → RelV x v → RelV y u → r x y H Q →
    subscripted slice false v u = operate [v, u] (getItem v u) → wpAny (model X.prog X.w) X.A (subscriptTail value slice v u) (EP X pins σ Q) X.xe s
def MtR (X : Cx) (id : String) (r : V → List V → Hp → VK → Prop) : Prop :=
  ∀ (pins : List (Addr × Obj)) (s : Shared) (σ : St) (H : Hp) (x : V) (xs : List V) (v : Value) (us : List Value) (Q : VK), Inv X pins σ H s → RelV x v → Vals xs us → r x xs H Q →
    wpAny (model X.prog X.w) X.A (call (.builtin id) (v :: us)) (EP X pins σ Q) X.xe s
section
variable {X : Cx} {a b : Expr} {ta tb : TE} {pos : Pos}
theorem IxR.or {r r' : R2} (h : IxR X r) (h' : IxR X r') : IxR X (fun x y H Q => r x y H Q ∨ r' x y H Q) := by
  intro value slice pins s σ H x y v u Q I rx ry q hs
  rcases q with q | q
  · exact h value slice pins s σ H x y v u Q I rx ry q hs
  · exact h' value slice pins s σ H x y v u Q I rx ry q hs
theorem pe_ix {r : R2} (hr : IxR X r) (ha : PE X a ta) (hb : PE X b tb) (hs : PlainIx b) : PE X (.Subscript a b pos) (tOp r ta tb) := by
  intro pins s σ H Q I h
  exact Subscript_ (binT ha hb I h fun v u s2 x y H2 I2 rx ry q => hr a b pins s2 σ H2 x y v u Q I2 rx ry q (hs _ _))
def rIxL (K : PySem.W.Frag) : R2 := fun x y H Q => ∃ p xs i v, x = .ref p ∧ y = .int i ∧ SqL K H p xs ∧ atI xs i = some v ∧ Q v H
def rIxT (K : PySem.W.Frag) : R2 := fun x y H Q => ∃ p xs i v, x = .ref p ∧ y = .int i ∧ SqT K H p xs ∧ atI xs i = some v ∧ Q v H
def rIxS : R2 := fun x y H Q => ∃ z i c, x = .str z ∧ y = .int i ∧ z.length ≤ sizeLine ∧ atI z.cps.toList i = some c ∧ Q (.str ⟨#[c]⟩) H
theorem ix_list : IxR X (rIxL X.K) := by
  intro value slice pins s σ H x y v u Q I rx ry h hs
  obtain ⟨p, xs, i, z, rfl, rfl, hq, he, q⟩ := h
  cases rx
  obtain ⟨t, rfl⟩ := ry
  obtain ⟨its, r, pl, hz⟩ := I.list hq
  obtain ⟨j, h1, h2, h3, h4, h5⟩ := atI_get he
  obtain ⟨w, ew, rw'⟩ := r.get h2
  have hl := r.length
  have hn := line63
  have fin : EP X pins σ Q w s := ⟨z, H, I, rw', q⟩
  by_cases h0 : 0 ≤ i
  · have hj : i.toNat = j := by
      rw [seqIndex_of h0 h5] at h1
      exact Option.some.inj h1
    exact item_listR pl.isList h0 (by omega) (by rw [hj]; simpa using ew) fin hs
  · have hj : (i + (its.toArray.size : Int)).toNat = j := by
      rw [seqIndex_neg (by omega) h4] at h1
      rw [List.size_toArray, ← hl]
      exact Option.some.inj h1
    exact subscriptTail_builtinR (x := w) pl.isList.typeIs slot_list_getitem.lookup
      (wpAny_getItem_list_neg (Q := fun r s' => r = w ∧ EP X pins σ Q r s') pl.isList (by omega) (by rw [List.size_toArray] <;> omega) (by omega) (by rw [hj]; simpa using ew) ⟨rfl, fin⟩) hs
theorem ix_tup : IxR X (rIxT X.K) := by
  intro value slice pins s σ H x y v u Q I rx ry h hs
  obtain ⟨p, xs, i, z, rfl, rfl, hq, he, q⟩ := h
  cases rx
  obtain ⟨t, rfl⟩ := ry
  obtain ⟨its, r, pl, hz⟩ := I.tuple hq
  obtain ⟨j, h1, h2, h3, h4, h5⟩ := atI_get he
  obtain ⟨w, ew, rw'⟩ := r.get h2
  have hl := r.length
  have hn := line63
  have fin : EP X pins σ Q w s := ⟨z, H, I, rw', q⟩
  exact subscriptTail_builtinR (x := w) pl.typeIs slot_tuple_getitem.lookup
    (getItem_tuple (j := j) (Q := fun r s' => r = w ∧ EP X pins σ Q r s') pl (by omega) (by omega) (by rw [List.size_toArray, ← hl]; exact h1) (by simpa using ew) ⟨rfl, fin⟩) hs
theorem ix_str : IxR X rIxS := by
  intro value slice pins s σ H x y v u Q I rx ry h hs
  obtain ⟨z, i, c, rfl, rfl, hz, he, q⟩ := h
  obtain ⟨t, rfl⟩ := rx
  obtain ⟨t', rfl⟩ := ry
  obtain ⟨j, h1, h2, h3, h4, h5⟩ := atI_get he
  have hl : z.cps.toList.length = z.length := by simp [Str.length]
  rw [hl] at h1 h4 h5
  have hn := line63
  exact tail_any (typeIs_str s z t) slot_str_getitem.lookup (getItem_str (c := c) (by
    have e1 : decide (i < -(2 ^ 63 : Int)) = false := decide_eq_false (by omega)
    have e2 : decide (i ≥ 2 ^ 63) = false := decide_eq_false (by omega)
    rw [e1, e2, Bool.or_false]) (by rw [h1]; simpa using h2) ⟨.str ⟨#[c]⟩, H, I.tok _, ⟨_, rfl⟩, q⟩) hs
def rIx (K : PySem.W.Frag) : R2 := fun x y H Q => rIxL K x y H Q ∨ rIxT K x y H Q ∨ rIxS x y H Q
theorem ix_seq : IxR X (rIx X.K) := ix_list.or (ix_tup.or ix_str)
theorem slice_bounds (lo hi : Option Int) (n : Nat) : (sliceBounds lo hi none n).1 = ((HT.sIx n 0 lo : Nat) : Int) ∧ (sliceBounds lo hi none n).2.1 = ((HT.sIx n n hi : Nat) : Int) ∧ (sliceBounds lo hi none n).2.2 = 1 := by
  refine ⟨?_, ?_, rfl⟩
  · cases lo with
    | none => simp [sliceBounds, HT.sIx]
    | some i =>
      simp only [sliceBounds, HT.sIx, Option.getD_none, show (1 : Int) > 0 by decide, if_true]
      by_cases h : i < 0
      · simp only [h, if_true] <;> omega
      · simp only [h, if_false] <;> omega
  · cases hi with
    | none => simp [sliceBounds, HT.sIx]
    | some i =>
      simp only [sliceBounds, HT.sIx, Option.getD_none, show (1 : Int) > 0 by decide, if_true]
      by_cases h : i < 0
      · simp only [h, if_true] <;> omega
      · simp only [h, if_false] <;> omega
theorem slicePick_cut (its : List Value) (lo hi : Option Int) : slicePick its.toArray lo hi none = ((its.drop (HT.sIx its.length 0 lo)).take (HT.sIx its.length its.length hi - HT.sIx its.length 0 lo)).toArray := by
  obtain ⟨h1, h2, h3⟩ := slice_bounds lo hi its.toArray.size
  unfold slicePick
  rw [h1, h2, h3]
  simp only [sliceRange_one, pick_run, List.size_toArray] <;> rfl
def rSlL (K : PySem.W.Frag) : V → Option Int → Option Int → Hp → VK → Prop := fun x lo hi H Q => ∃ a xs, x = .ref a ∧ SqL K H a xs ∧ ∀ p, H p = none → Q (.ref p) (upd H p (.lst (cutV xs lo hi)))
theorem sl_list : SlR X (rSlL X.K) := by
  intro pins s σ H x v vl vu lo hi sl Q I rx hs pl pu h
  obtain ⟨a, xs, rfl, hx, q⟩ := h
  cases rx
  obtain ⟨its, r, ht, hz⟩ := I.list hx
  have hlen := r.length
  refine ⟨"list", _, slot_list_getitem.lookup, ht.isList.typeIs, ?_⟩
  refine wpAny_getItem_list_slice ht.isList hs pl pu .none (by simp) ?_ (by rw [List.size_toArray] <;> omega)
  rw [slicePick_cut, ← hlen]
  refine ⟨.ref s.heap.objs.size, _, I.laid (t' := s.toks) (o := .lst (cutV xs lo hi)) (fun b ob q => Heap.get?_push_of_some _ q) (Nat.le_refl _) ?_, rfl, q _ (I.hok.fresh (Nat.le_refl _))⟩
  exact ⟨Nat.le_trans (cutV_length xs lo hi) hz, _, 0, (r.drop (HT.sIx xs.length 0 lo)).take (HT.sIx xs.length xs.length hi - HT.sIx xs.length 0 lo), Heap.get?_push_size _ rfl⟩
theorem call_len_seq : CallR X (.builtin "len") (fun xs H Q => ∃ p ys, xs = [.ref p] ∧ (SqL X.K H p ys ∨ SqT X.K H p ys) ∧ Q (.int ys.length) H) := by
  intro pins s σ H xs us Q I r h
  obtain ⟨p, ys, rfl, hq, q⟩ := h
  obtain ⟨u, rfl, rx⟩ := vals1 r
  cases rx
  have hn := line63
  rcases hq with hq | hq
  · obtain ⟨its, r', pl, hz⟩ := I.list hq
    have hlen := r'.length
    exact Calls.call_len_list pl.isList (by simp only [List.size_toArray] <;> omega) ⟨.int ys.length, H, I.tok _, ⟨s.toks + 1, by rw [List.size_toArray, hlen]⟩, q⟩
  · obtain ⟨its, r', pl, hz⟩ := I.tuple hq
    have hlen := r'.length
    exact len_tuple pl (by simp only [List.size_toArray] <;> omega) ⟨.int ys.length, H, I.tok _, ⟨s.toks + 1, by rw [List.size_toArray, hlen]⟩, q⟩
theorem call_len_str : CallR X (.builtin "len") (fun xs H Q => ∃ z, xs = [.str z] ∧ z.length ≤ sizeLine ∧ Q (.int z.length) H) := by
  intro pins s σ H xs us Q I r h
  obtain ⟨z, rfl, hz, q⟩ := h
  obtain ⟨u, rfl, t, rfl⟩ := vals1 r
  have hn := line63
  exact len_str (by omega) ⟨.int z.length, H, I.tok _, ⟨_, rfl⟩, q⟩
theorem CallR.or {f : Value} {r r' : List V → Hp → VK → Prop} (h : CallR X f r) (h' : CallR X f r') : CallR X f (fun xs H Q => r xs H Q ∨ r' xs H Q) := by
  intro pins s σ H xs us Q I rs q
  rcases q with q | q
  · exact h pins s σ H xs us Q I rs q
  · exact h' pins s σ H xs us Q I rs q
theorem call_list_of : CallR X (.type "list") (fun xs H Q => ∃ p ys, xs = [.ref p] ∧ (SqL X.K H p ys ∨ SqT X.K H p ys) ∧ ∀ l, H l = none → Q (.ref l) (upd H l (.lst ys))) := by
  intro pins s σ H xs us Q I r h
  obtain ⟨p, ys, rfl, hq, q⟩ := h
  obtain ⟨u, rfl, rx⟩ := vals1 r
  cases rx
  have fin : ∀ (its : List Value), Vals ys its → ys.length ≤ sizeLine → ∀ (h' : Heap) (c' : Nat), (∀ b o', s.heap.get? b = some o' → h'.get? b = some o') →
      h'.get? s.heap.objs.size = some { cls := .type "list", dict := none, data := .seq its.toArray c', slots := #[] } → EP X pins σ Q (.ref s.heap.objs.size) { s with heap := h' } := fun its r' hz h' c' kp e =>
    ⟨.ref s.heap.objs.size, _, I.laid (t' := s.toks) kp (Nat.le_refl _) (show ObjOk X.prog X.w _ h' _ (.lst ys) from ⟨hz, its, c', r', e⟩), rfl, q _ (I.hok.fresh (Nat.le_refl _))⟩
  rcases hq with hq | hq
  · obtain ⟨its, r', pl, hz⟩ := I.list hq
    have hlen := r'.length
    obtain ⟨o, ho, hc, n, hd⟩ := pl.isList
    exact call_list_seq p (.inl rfl) ho hc hd (fun h' c' kp e => fin its r' hz h' c' kp e) (by simp only [List.size_toArray] <;> omega)
  · obtain ⟨its, r', pl, hz⟩ := I.tuple hq
    have hlen := r'.length
    obtain ⟨o, ho, hc, n, hd⟩ := pl
    exact call_list_seq p (.inr rfl) ho hc hd (fun h' c' kp e => fin its r' hz h' c' kp e) (by simp only [List.size_toArray] <;> omega)
def tyV (K : PySem.W.Frag) (T : String) (x : V) (H : Hp) : Prop := match x with
  | .str _ => T = "str"
  | .int _ => T = "int"
  | .ref p => (T = "list" ∧ ∃ xs, SqL K H p xs) ∨ (T = "tuple" ∧ ∃ o, K.lookup p = some o ∧ o.cls = .type "tuple" ∧ o.dict = none) ∨
      (T = "dict" ∧ ((∃ kvs, H p = some (.dK kvs)) ∨ ∃ kvs, H p = some (.dT kvs))) ∨ (T = "set" ∧ ∃ S n, H p = some (.set S n))
  | _ => False
theorem tyV_is {pins : List (Addr × Obj)} {σ : St} {H : Hp} {s : Shared} {T : String} {x : V} {v : Value} (I : Inv X pins σ H s) (r : RelV x v) (ty : tyV X.K T x H) :
    s.TypeIs v T ∧ ∀ a, v = .ref a → ∃ ob, s.heap.get? a = some ob ∧ ob.dict = none := by
  cases x with
  | str z =>
    obtain ⟨t, rfl⟩ := r
    cases (show T = "str" from ty)
    exact ⟨typeIs_str s z t, fun _ e => nomatch e⟩
  | int i =>
    obtain ⟨t, rfl⟩ := r
    cases (show T = "int" from ty)
    exact ⟨typeIs_int s i t, fun _ e => nomatch e⟩
  | ref p =>
    cases r
    rcases ty with ⟨rfl, xs, hq⟩ | ⟨rfl, o, hk, hc, hd⟩ | ⟨rfl, hk⟩ | ⟨rfl, S, n, hk⟩
    · obtain ⟨its, _, pl, _⟩ := I.list hq
      refine ⟨pl.isList.typeIs, fun a e => ?_⟩
      cases e
      obtain ⟨o, n, e, c, hd, _⟩ := pl
      exact ⟨o, e, hd⟩
    · refine ⟨⟨o, I.kIn p o hk, hc⟩, fun a e => ?_⟩
      cases e
      exact ⟨o, I.kIn _ o hk, hd⟩
    · have z : ∃ o, s.heap.get? p = some o ∧ o.ExactDict := by
        rcases hk with ⟨kvs, hk⟩ | ⟨kvs, hk⟩
        · obtain ⟨_, _, _, _, o, _, _, e, ex, _⟩ := I.hok p _ hk
          exact ⟨o, e, ex⟩
        · obtain ⟨_, _, _, _, o, _, _, e, ex, _⟩ := I.hok p _ hk
          exact ⟨o, e, ex⟩
      obtain ⟨o, e, ex⟩ := z
      refine ⟨⟨o, e, ex.1⟩, fun a e2 => ?_⟩
      cases e2
      exact ⟨o, e, ex.2.1⟩
    · obtain ⟨o, _, _, _, e, ex, _⟩ := I.hok p _ hk
      refine ⟨⟨o, e, ex.1⟩, fun a e2 => ?_⟩
      cases e2
      exact ⟨o, e, ex.2.1⟩
  | _ => exact False.elim ty
def tBM (K : PySem.W.Frag) (T : String) (r : V → List V → Hp → VK → Prop) (to : TE) (t : TA) : TE := fun σ H Q => to σ H fun x H1 => tyV K T x H1 ∧ t σ H1 fun xs H2 => r x xs H2 Q
variable {o e : Expr} {es : List Expr} {to : TE} {t : TA} {name : Str} {apos cpos : Pos} {T id : String} {r : V → List V → Hp → VK → Prop}
theorem pe_bm (pa : PlainAttrs T) (slot : Slot T name id) (hty : typeOf (.builtin id) = pure (.type "method_descriptor")) (hm : MtR X id r) (ho : PE X o to) (ha : PA X (e :: es) t)
    (hbase : attributeBase o name X.env (eval o X.env) = eval o X.env := by rfl)
    (hfew : ((backTo cpos (starEach (e :: es) X.env)).all (fun x => !x.1) && (backToKw cpos (keywordEach [] X.env)).all (fun x => x.1.isSome)
      && decide ((e :: es).length + ([] : List Keyword).length + (if ([] : List Keyword).isEmpty then 0 else 1) < 30)) = true := by rfl)
    (hline : (apos.endLine == cpos.line) = true := by rfl) (hs : starEach (e :: es) X.env = (false, eval e X.env) :: starEach es X.env := by rfl) (hplain : (backTo cpos (starEach es X.env)).any (·.1) = false := by rfl) :
    PE X (.Call (.Attribute o name apos) (e :: es) [] cpos) (tBM X.K T r to t) := by
  intro pins s σ H Q I h
  refine wpAny_Call_method_late hbase hfew hline rfl (thn (ho pins s σ H _ I h) fun v s1 ⟨x, H1, I1, r1, ty, q1⟩ => ?_)
  obtain ⟨h1, h2⟩ := tyV_is I1 r1 ty
  refine ⟨T, id, pa, slot, hty, h1, h2, ?_⟩
  have hA := ha cpos pins s1 σ H1 _ I1 q1
  rw [hs] at hA ⊢
  refine Calls.callWith_builtin (by show (false || (backTo cpos (starEach es X.env)).any (·.1)) = false; rw [hplain] <;> rfl) (Calls.evalArgs_plain ?_)
  exact thn hA fun us s2 ⟨vs, H2, I2, r2, q2⟩ => hm pins s2 σ H2 x vs v us Q I2 r1 r2 q2
end
end L2
namespace L2
open PySem PySem.Spec PyProof.Rows
def MtM (X : Cx) (id : String) (r : V → List V → Hp → VK → Prop) : Prop :=
  ∀ (pins : List (Addr × Obj)) (s : Shared) (σ : St) (H : Hp) (x : V) (xs : List V) (v : Value) (us : List Value) (Q : VK), Inv X pins σ H s → RelV x v → Vals xs us → r x xs H Q →
    wpAny (model X.prog X.w) X.A (call (.builtin id) (v :: us)) (EP X pins σ Q) X.xe s
theorem Vals.one : ∀ {x : V} {us : List Value}, Vals [x] us → ∃ u, us = [u] ∧ RelV x u
  | _, _, .cons r .nil => ⟨_, rfl, r⟩
theorem Vals.reverse {xs : List V} {us : List Value} (h : Vals xs us) : Vals xs.reverse us.reverse := by
  induction h with
  | nil => exact .nil
  | cons r t ih => rw [List.reverse_cons, List.reverse_cons]; exact Vals.append ih (.cons r .nil)
section
variable {X : Cx} {pins : List (Addr × Obj)} {σ : St} {H : Hp} {s : Shared} {l b : Addr} {xs ys zs : List V}
theorem Inv.lset {its its' : List Value} {n : Nat} {f : Array Value → Array Value} {t' : Nat} (I : Inv X pins σ H s) (hH : H l = some (.lst xs))
    (e : s.heap.get? l = some { cls := .type "list", data := .seq its.toArray n }) (hf : f its.toArray = its'.toArray) (hv : Vals ys its') (hz : ys.length ≤ sizeLine) :
    Inv X pins σ (upd H l (.lst ys)) { s with heap := s.heap.update l (Obj.mapSeq f), toks := t' } := by
  have q := PySem.IsL.update e f
  rw [hf] at q
  refine I.write (x := l) (e := l) (by rw [hH]; exact trivial) (.inl rfl) (fun b' u hb hu => (Heap.get?_update_other s.heap (Obj.mapSeq f) (Ne.symm hb)).trans hu) ⟨_, q⟩ ?_
  exact ⟨hz, its', _, hv, q⟩
theorem Inv.lnew {its : List Value} {t' : Nat} (I : Inv X pins σ H s) (hv : Vals ys its) (hz : ys.length ≤ sizeLine) :
    Inv X pins σ (upd H s.heap.objs.size (.lst ys)) { s with heap := s.heap.push { cls := .type "list", data := .seq its.toArray }, toks := t' } :=
  I.laid (fun _ _ q => Heap.get?_push_of_some _ q) (Nat.le_refl _) ⟨hz, its, 0, hv, Heap.get?_push_size _ rfl⟩
theorem Inv.fresh (I : Inv X pins σ H s) : H s.heap.objs.size = none := I.hok.fresh (Nat.le_refl _)
theorem Inv.lstM (I : Inv X pins σ H s) (hH : H l = some (.lst xs)) : xs.length ≤ sizeLine ∧ ∃ (its : List Value) (n : Nat), Vals xs its ∧ xs.length = its.length ∧ s.heap.get? l = some { cls := .type "list", data := .seq its.toArray n } := by
  obtain ⟨z, its, n, r, e⟩ := I.hok l _ hH
  exact ⟨z, its, n, r, r.length, e⟩
end
section
variable {X : Cx}
def rAppend : V → List V → Hp → VK → Prop := fun x vs H Q => ∃ l xs y, x = .ref l ∧ vs = [y] ∧ H l = some (.lst xs) ∧ xs.length < sizeLine ∧ Q .non (upd H l (.lst (xs ++ [y])))
theorem mt_append : MtM X "list.append" rAppend := by
  intro pins s σ H x vs v us Q I rx rv h
  obtain ⟨l, xs, y, rfl, rfl, hH, hz, q⟩ := h
  cases rx
  obtain ⟨u, rfl, ru⟩ := rv.one
  obtain ⟨z, its, n, r, hl, e⟩ := I.lstM hH
  refine call_meets F.slot_list_append ⟨_, e, rfl⟩ F.entry_list_append (F.args_list_append_2 _ _) (PySem.list_append l its.toArray n u (by rw [List.size_toArray]; omega)) ⟨e, ?_⟩
  refine ⟨.non, _, I.lset (its' := its ++ [u]) hH e (by simp) (r.append (.cons ru .nil)) ?_, rfl, q⟩
  rw [List.length_append, List.length_singleton]
  omega
end
section
variable {prog : Program} {w : World} {A : Around} {E : Value → Shared → Prop} {s : Shared}
end
section
variable {X : Cx}
end
end L2
namespace L2
open PySem PySem.Spec PyProof.Rows
section
variable {κ : Type} [DecidableEq κ]
def valV (kvs : List (κ × V)) (k : κ) : Option V := (kvs.find? fun kv => decide (kv.1 = k)).map (·.2)
def putK (kvs : List (κ × V)) (k : κ) (v : V) : List (κ × V) :=
  if (kvs.any fun kv => decide (kv.1 = k)) = true then kvs.map (fun kv => if kv.1 = k then (kv.1, v) else kv) else kvs ++ [(k, v)]
theorem valV_pos {p : κ × V} {r : List (κ × V)} {k : κ} (e : p.1 = k) : valV (p :: r) k = some p.2 := by simp [valV, List.find?_cons, e]
theorem valV_neg {p : κ × V} {r : List (κ × V)} {k : κ} (e : ¬ p.1 = k) : valV (p :: r) k = valV r k := by simp [valV, List.find?_cons, e]
theorem valV_any (k : κ) : ∀ kvs : List (κ × V), (kvs.any fun kv => decide (kv.1 = k)) = (valV kvs k).isSome
  | [] => rfl
  | p :: r => by
    rw [List.any_cons]
    by_cases e : p.1 = k
    · simp only [valV_pos e, decide_eq_true e, Bool.true_or, Option.isSome_some]
    · rw [valV_neg e, decide_eq_false e, Bool.false_or]; exact valV_any k r
theorem length_putK (kvs : List (κ × V)) (k : κ) (v : V) : (putK kvs k v).length ≤ kvs.length + 1 := by
  unfold putK
  split
  · rw [List.length_map]; omega
  · rw [List.length_append, List.length_cons, List.length_nil]; omega
theorem RelO.isSome_eq {o : Option V} {u : Option Value} (r : RelO o u) : o.isSome = u.isSome := by
  cases o with
  | none => cases u with
    | none => rfl
    | some _ => exact (show False from r).elim
  | some _ => cases u with
    | none => exact (show False from r).elim
    | some _ => rfl
theorem KV.val {kvs : List (κ × V)} {vs : List (κ × Value)} (r : KV kvs vs) (k : κ) : RelO (valV kvs k) (valueAt vs k) := by
  unfold KV at r
  induction r with
  | nil => exact True.intro
  | @cons p q ps qs h t ih =>
    obtain ⟨h1, h2⟩ := h
    by_cases e : p.1 = k
    · have e' : q.1 = k := h1.symm.trans e
      have b : valueAt (q :: qs) k = some q.2 := by simp [valueAt, List.find?_cons, e']
      rw [valV_pos e, b]; exact h2
    · have e' : ¬ q.1 = k := fun z => e (h1.trans z)
      have b : valueAt (q :: qs) k = valueAt qs k := by simp [valueAt, List.find?_cons, e']
      rw [valV_neg e, b]; exact ih
theorem KV.any {kvs : List (κ × V)} {vs : List (κ × Value)} (r : KV kvs vs) (k : κ) : (kvs.any fun kv => decide (kv.1 = k)) = vs.any fun kv => decide (kv.1 = k) := by
  unfold KV at r
  induction r with
  | nil => rfl
  | cons h t ih => rw [List.any_cons, List.any_cons, ih, h.1]
theorem KV.repl {kvs : List (κ × V)} {vs : List (κ × Value)} (r : KV kvs vs) (k : κ) {y : V} {u : Value} (ry : RelV y u) :
    KV (kvs.map fun kv => if kv.1 = k then (kv.1, y) else kv) (vs.map fun kv => if kv.1 = k then (kv.1, u) else kv) := by
  unfold KV at r ⊢
  induction r with
  | nil => exact .nil
  | @cons p q ps qs h t ih =>
    rw [List.map_cons, List.map_cons]
    refine .cons ?_ ih
    obtain ⟨h1, h2⟩ := h
    by_cases e : p.1 = k
    · rw [if_pos e, if_pos (h1.symm.trans e)]; exact ⟨h1, ry⟩
    · rw [if_neg e, if_neg (fun z => e (h1.trans z))]; exact ⟨h1, h2⟩
theorem KV.put {kvs : List (κ × V)} {vs : List (κ × Value)} (r : KV kvs vs) (k : κ) {y : V} {u : Value} (ry : RelV y u) : KV (putK kvs k y) (stored vs k u) := by
  unfold putK stored
  rw [r.any k]
  by_cases e : (vs.any fun kv => decide (kv.1 = k)) = true
  · rw [if_pos e, if_pos e]; exact r.repl k ry
  · rw [if_neg e, if_neg e]; exact Paired.snoc r ⟨rfl, ry⟩
theorem KV.length {kvs : List (κ × V)} {vs : List (κ × Value)} (r : KV kvs vs) : kvs.length = vs.length := Paired.length r
end
theorem kV_is {P : Program} {w : World} {k : Key} {u : Value} (r : RelV (kV k) u) : (mixKind P w).is k u = true := by
  cases k with
  | inl i => obtain ⟨t, e⟩ := (show ∃ t, u = Value.int i t from r); subst e; exact mixKind_int P w i t
  | inr x => obtain ⟨t, e⟩ := (show ∃ t, u = Value.str x t from r); subst e; exact mixKind_str P w x t
theorem items_are {P : Program} {w : World} : ∀ {ks : List Key} {us : List Value}, Vals (ks.map kV) us → ItemsAre (mixKind P w) ks us
  | [], _, r => by rw [List.map_nil] at r; cases r; exact .nil
  | k :: ks, _, r => by
    rw [List.map_cons] at r
    cases r with
    | cons h t => exact .cons (kV_is h) (items_are t)
abbrev KT (H : Hp) : List (List Key × V) → List (List Key × Addr × Value) → Prop := Paired fun p q => p.1 = q.1 ∧ H q.2.1 = some (.tup (p.1.map kV)) ∧ RelV p.2 q.2.2
theorem KT.val {H : Hp} {kvs : List (List Key × V)} {xs : List (List Key × Addr × Value)} (r : KT H kvs xs) (k : List Key) : RelO (valV kvs k) ((atKey xs k).map (·.2)) := by
  induction r with
  | nil => exact True.intro
  | @cons p q ps qs h t ih =>
    obtain ⟨h1, _, h2⟩ := h
    by_cases e : p.1 = k
    · have e' : q.1 = k := h1.symm.trans e
      have b : atKey (q :: qs) k = some q.2 := by simp [atKey, List.find?_cons, e']
      rw [valV_pos e, b]; exact h2
    · have e' : ¬ q.1 = k := fun z => e (h1.trans z)
      have b : atKey (q :: qs) k = atKey qs k := by simp [atKey, List.find?_cons, e']
      rw [valV_neg e, b]; exact ih
theorem KT.repl {H : Hp} {kvs : List (List Key × V)} {xs : List (List Key × Addr × Value)} (r : KT H kvs xs) (k : List Key) {y : V} {u : Value} (ry : RelV y u) :
    KT H (kvs.map fun kv => if kv.1 = k then (kv.1, y) else kv) (xs.map (putAt k u)) := by
  induction r with
  | nil => exact .nil
  | @cons p q ps qs h t ih =>
    rw [List.map_cons, List.map_cons]
    refine .cons ?_ ih
    obtain ⟨h1, h2, h3⟩ := h
    unfold putAt
    by_cases e : p.1 = k
    · rw [if_pos e, if_pos (h1.symm.trans e)]; exact ⟨h1, h2, ry⟩
    · rw [if_neg e, if_neg (fun z => e (h1.trans z))]; exact ⟨h1, h2, h3⟩
theorem KT.put {H : Hp} {kvs : List (List Key × V)} {xs : List (List Key × Addr × Value)} (r : KT H kvs xs) (k : List Key) {b : Addr} {y : V} {u : Value} (hb : H b = some (.tup (k.map kV))) (ry : RelV y u) :
    KT H (putK kvs k y) (storedH xs k b u) := by
  have e : (kvs.any fun kv => decide (kv.1 = k)) = (atKey xs k).isSome := by
    rw [valV_any, (r.val k).isSome_eq, Option.isSome_map]
  unfold putK storedH
  rw [e]
  by_cases q : (atKey xs k).isSome = true
  · rw [if_pos q, if_pos q]; exact r.repl k ry
  · rw [if_neg q, if_neg q]; exact Paired.snoc r ⟨rfl, hb, ry⟩
theorem KT.keeps {H H' : Hp} {kvs : List (List Key × V)} {xs : List (List Key × Addr × Value)} (r : KT H kvs xs) (ht : ∀ b ys, H b = some (.tup ys) → H' b = some (.tup ys)) : KT H' kvs xs :=
  Paired.mapP r fun _ _ z => ⟨z.1, ht _ _ z.2.1, z.2.2⟩
section
variable {P : Program} {w : World} {H : Hp} {h : Heap} {a : Addr}
theorem rd_of {u : HO} (ok : HOk P w H h) (e : Rd H a u) : ObjOk P w H h a u := e.ok ok
theorem dk_rd {kvs : List (Key × V)} (ok : HOk P w H h) (e : Rd H a (.dK kvs)) : kvs.length ≤ sizeLine ∧ (a == sysModules) = false ∧ ∃ vs, KV kvs vs ∧ h.DictOf (mixKind P w) a vs :=
  show ObjOk P w H h a (.dK kvs) from rd_of ok e
theorem dk_of {kvs : List (Key × V)} (ok : HOk P w H h) (e : H a = some (.dK kvs)) : kvs.length ≤ sizeLine ∧ (a == sysModules) = false ∧ ∃ vs, KV kvs vs ∧ h.DictOf (mixKind P w) a vs := dk_rd ok (.inl e)
theorem key_of {ks : List Key} (ok : HOk P w H h) (e : H a = some (.tup (ks.map kV))) : (tupleKind (mixKind P w)).is h ks a := by
  obtain ⟨_, its, r, o, h1, h2, n, h3⟩ := (show ObjOk P w H h a (.tup (ks.map kV)) from ok a _ e)
  exact ⟨o, its.toArray, n, h1, h2, h3, by simpa using items_are r⟩
theorem dt_rd {kvs : List (List Key × V)} (ok : HOk P w H h) (e : Rd H a (.dT kvs)) : kvs.length ≤ sizeLine ∧ (a == sysModules) = false ∧
    ∃ xs, KT H kvs xs ∧ h.DictOfH (tupleKind (mixKind P w)) a xs := by
  obtain ⟨z, y, xs, r, o, es, ep, h1, h2, h3, h4, h5⟩ := (show ObjOk P w H h a (.dT kvs) from rd_of ok e)
  refine ⟨z, y, xs, r, o, es, ep, h1, h2, h3, h4, fun x hx => ?_, h5⟩
  have all : ∀ {l : List (List Key × V)} {m : List (List Key × Addr × Value)}, KT H l m → ∀ x ∈ m, (tupleKind (mixKind P w)).is h x.1 x.2.1 := by
    intro l m q
    induction q with
    | nil => intro x hx; exact nomatch hx
    | @cons p q ps qs hq t ih =>
      intro x hx
      rcases List.mem_cons.mp hx with e | hx
      · subst e
        exact key_of ok (by rw [← hq.1]; exact hq.2.1)
      · exact ih x hx
  exact all r x hx
theorem dt_of {kvs : List (List Key × V)} (ok : HOk P w H h) (e : H a = some (.dT kvs)) : kvs.length ≤ sizeLine ∧ (a == sysModules) = false ∧
    ∃ xs, KT H kvs xs ∧ h.DictOfH (tupleKind (mixKind P w)) a xs := dt_rd ok (.inl e)
end
def DGet (H : Hp) (a : Addr) (y : V) (r : Option V) : Prop :=
  (∃ kvs k, Rd H a (.dK kvs) ∧ y = kV k ∧ r = valV kvs k) ∨ ∃ kvs k b, Rd H a (.dT kvs) ∧ y = .ref b ∧ H b = some (.tup (k.map kV)) ∧ r = valV kvs k
def DPut (H : Hp) (a : Addr) (y v : V) (H' : Hp) : Prop :=
  (∃ kvs k, H a = some (.dK kvs) ∧ y = kV k ∧ kvs.length < sizeLine ∧ H' = upd H a (.dK (putK kvs k v))) ∨
  ∃ kvs k b, H a = some (.dT kvs) ∧ y = .ref b ∧ H b = some (.tup (k.map kV)) ∧ kvs.length < sizeLine ∧ H' = upd H a (.dT (putK kvs k v))
theorem DGet.t {H : Hp} {a b : Addr} {kvs : List (List Key × V)} {k : List Key} (e : H a = some (.dT kvs)) (eb : H b = some (.tup (k.map kV))) : DGet H a (.ref b) (valV kvs k) := .inr ⟨kvs, k, b, .inl e, rfl, eb, rfl⟩
theorem DPut.t {H : Hp} {a b : Addr} {kvs : List (List Key × V)} {k : List Key} {v : V} (e : H a = some (.dT kvs)) (eb : H b = some (.tup (k.map kV))) (hl : kvs.length < sizeLine) :
    DPut H a (.ref b) v (upd H a (.dT (putK kvs k v))) := .inr ⟨kvs, k, b, e, rfl, eb, hl, rfl⟩
section
variable {X : Cx} {pins : List (Addr × Obj)} {σ : St} {H : Hp} {s : Shared} {a : Addr} {y v : V} {u r : Value} {o : Option V} {A : Around} {E : Value → Shared → Prop}
theorem Inv.big (I : Inv X pins σ H s) : sysModules < s.heap.objs.size := by
  have h : mainGlobals < s.heap.objs.size := (I.mod.glob.keeps I.bk).lt
  exact Nat.lt_trans (by decide) h
theorem d_in {Q : Value → Shared → Prop} (hu : A.units + 1 < cLine) (I : Inv X pins σ H s) (g : DGet H a y o) (ry : RelV y u) (h : ∀ s', Inv X pins σ H s' → Q (.bool o.isSome) s') :
    wpAny (model X.prog X.w) A (compareOp .In u (.ref a)) Q E s := by
  rcases g with ⟨kvs, k, e, ey, l⟩ | ⟨kvs, k, b, e, ey, eb, l⟩
  · subst ey
    obtain ⟨z, hd, vs, rel, dd⟩ := dk_rd I.hok e
    refine wpAny_in_of (kV_is ry) hd dd.mapOf ?_
    rw [← (rel.val k).isSome_eq, ← l]
    exact h _ (I.tok _)
  · subst ey
    cases (show u = Value.ref b from ry)
    obtain ⟨z, hd, xs, rel, dd⟩ := dt_rd I.hok e
    refine wpAny_in_heap (tupleKind_room_in1 hu) (key_of I.hok eb) hd dd ?_
    have q := (rel.val k).isSome_eq
    rw [Option.isSome_map] at q
    rw [← q, ← l]
    exact h _ (I.tok _)
theorem d_write {h' : Heap} {t' : Nat} {ob : HO} (I : Inv X pins σ H s) (mu : Mut (H a)) (hs : Heap.SameBut a s.heap h') (he : ∃ q, h'.get? a = some q) (new : ObjOk X.prog X.w (upd H a ob) h' a ob) :
    Inv X pins σ (upd H a ob) { s with heap := h', toks := t' } :=
  I.write (x := a) (e := a) mu (.inl rfl) (fun b q hb z => (hs.2 b hb).trans z) he new
theorem dk_new {P : Program} {w : World} {H' : Hp} {h' : Heap} {kvs : List (Key × V)} {vs : List (Key × Value)} (z : kvs.length ≤ sizeLine) (hd : (a == sysModules) = false) (rel : KV kvs vs) (dd : h'.DictOf (mixKind P w) a vs) :
    ObjOk P w H' h' a (.dK kvs) := ⟨z, hd, vs, rel, dd⟩
theorem d_setItem {H' : Hp} {Q : Unit → Shared → Prop} (hu : A.units + 1 < cLine) (I : Inv X pins σ H s) (g : DPut H a y v H') (ry : RelV y u) (rv : RelV v r) (h : ∀ s', Inv X pins σ H' s' → Q () s') :
    wpAny (model X.prog X.w) A (setItem (.ref a) u r) Q E s := by
  rcases g with ⟨kvs, k, e, ey, l, eH⟩ | ⟨kvs, k, b, e, ey, eb, l, eH⟩
  · subst ey eH
    obtain ⟨z, hd, vs, rel, dd⟩ := dk_of I.hok e
    have hz : vs.length ≤ sizeLine := by rw [← rel.length]; exact z
    have hl : (putK kvs k v).length ≤ sizeLine := by have := length_putK kvs k v; omega
    refine wpAny_setItem_pairs (hsz := hz) (kV_is ry) dd fun h' dd' hs => h _ ?_
    have he : ∃ q, h'.get? a = some q := let ⟨q, _, _, hq, _⟩ := dd'; ⟨q, hq⟩
    exact d_write I (by rw [e]; exact True.intro) hs he (dk_new hl hd (rel.put k rv) dd')
  · subst ey eH
    cases (show u = Value.ref b from ry)
    obtain ⟨z, hd, xs, rel, dd⟩ := dt_of I.hok e
    have hz : xs.length ≤ sizeLine := by rw [← Paired.length rel]; exact z
    have hl : (putK kvs k v).length ≤ sizeLine := by have := length_putK kvs k v; omega
    refine wpAny_setItem_heap (hsz := hz) (tupleKind_room_in1 hu) (key_of I.hok eb) dd fun h' dd' hs => h _ ?_
    obtain ⟨q, es, ep, hq, h2, h3, h4, _, h5⟩ := dd'
    refine d_write I (by rw [e]; exact True.intro) hs ⟨q, hq⟩ ⟨hl, hd, _, (rel.put k eb rv).keeps fun c ys ec => ?_, q, es, ep, hq, h2, h3, h4, h5⟩
    rw [upd_ne (ne_of ec e (fun z => nomatch z))]
    exact ec
end
section
variable {X : Cx} {pins : List (Addr × Obj)} {σ : St} {H : Hp} {s : Shared} {a : Addr} {kvs : List (Key × V)} {k : Key} {u : Value} {A : Around} {E : Value → Shared → Prop}
end
def tDIn (ty td : TE) : TE := fun σ H Q => ty σ H fun y H1 => td σ H1 fun x H2 => ∃ a o, x = .ref a ∧ DGet H2 a y o ∧ Q (.bl o.isSome) H2
def sDPut (td ty tv : TE) : TS := fun D σ H => tv σ H fun v H1 => td σ H1 fun x H2 => ty σ H2 fun y H3 => ∃ a H4, x = .ref a ∧ DPut H3 a y v H4 ∧ D.nx σ H4
section
variable {X : Cx} {o i e value : Expr} {pos pos' tpos : Pos} {td ty tv : TE}
theorem pc_din (hu : X.A.units + 1 < cLine) (hi : PE X i ty) (ho : PE X o td) : PC X .In i o (tDIn ty td) := by
  intro pins s σ H Q I h
  refine thn (hi pins s σ H _ I h) fun iv s1 ⟨y, H1, I1, ry, q1⟩ => thn (ho pins s1 σ H1 _ I1 q1) fun u s2 ⟨x, H2, I2, rx, a, ov, ex, g, q2⟩ => ?_
  subst ex
  obtain rfl : u = Value.ref a := rx
  exact d_in hu I2 g ry fun s3 I3 => ⟨.bl ov.isSome, H2, I3, rfl, q2⟩
theorem ps_dput (hu : X.A.units + 1 < cLine) (ho : PE X o td) (hi : PE X i ty) (hv : PE X value tv) (hs : swapsWith value (some (.Subscript o i pos')) pos.line X.env = pure false) :
    PS X (.Assign [.Subscript o i pos'] value pos) (sDPut td ty tv) := by
  intro pins s σ H D I h
  refine wpAny_Assign_Subscript (thn (hv pins s σ H _ I h) fun r s1 ⟨v, H1, I1, rv, q1⟩ => thn (ho pins s1 σ H1 _ I1 q1) fun u s2 ⟨x, H2, I2, rx, q2⟩ => thn (hi pins s2 σ H2 _ I2 q2) fun iv s3 ⟨y, H3, I3, ry, a, H4, ex, g, q3⟩ => ?_) hs
  subst ex
  obtain rfl : u = Value.ref a := rx
  exact d_setItem hu I3 g ry rv fun s4 I4 => ⟨σ, H4, I4, q3⟩
end
theorem dt_empty {P : Program} {w : World} {H : Hp} (h : Heap) (hb : sysModules < h.objs.size) : ObjOk P w H (h.push { cls := .type "dict", data := .dict #[] }) h.objs.size (.dT []) :=
  ⟨Nat.zero_le _, beq_eq_false_iff_ne.mpr (Ne.symm (Nat.ne_of_lt hb)), [], .nil, _, #[], 0, Heap.get?_push_size _ rfl, ⟨rfl, rfl, rfl⟩, rfl, rfl, List.nodup_nil⟩
def tDNewT : TE := fun _ H Q => ∀ p, H p = none → Q (.ref p) (upd H p (.dT []))
section
variable {X : Cx} {pos : Pos}
theorem pe_dnewT : PE X (.Dict [] [] pos) tDNewT := fun pins s σ H Q I h =>
  wpAny_Dict_empty ⟨.ref s.heap.objs.size, _, I.laid (a := s.heap.objs.size) (o := .dT []) (t' := s.toks) (fun _ _ q => Heap.get?_push_of_some _ q) (Nat.le_refl _) (dt_empty s.heap I.big), rfl, h _ (I.hok.fresh (Nat.le_refl _))⟩
end
section
variable {X : Cx} {pins : List (Addr × Obj)} {σ : St} {H : Hp} {s : Shared} {a : Addr} {y d : V} {u r : Value} {o : Option V} {A : Around} {E : Value → Shared → Prop}
end
section
variable {X : Cx} {o e f : Expr} {apos cpos : Pos} {td ty tx : TE}
end
section
variable {X : Cx} {pins : List (Addr × Obj)} {σ : St} {H : Hp} {s : Shared} {a : Addr} {kvs : List (Key × V)} {A : Around} {E : Value → Shared → Prop}
end
section
variable {X : Cx} {pins : List (Addr × Obj)} {σ : St} {H : Hp} {s : Shared} {a : Addr} {y : V} {u : Value} {A : Around} {E : Value → Shared → Prop}
end
end L2
namespace Att
open PySem PySem.W PySem.Calls PyProof.Rows
theorem ints_of_wellAll {P : Params} {h : Heap} : ∀ (ns : List Int) (vs : List Value), WellAll P h vs (ns.map WData.int) → IntsAre vs ns := by
  intro ns
  induction ns with
  | nil =>
    intro vs w
    rw [List.map_nil] at w
    cases w
    exact .nil
  | cons n ns ih =>
    intro vs w
    rw [List.map_cons] at w
    cases w with
    | cons a b =>
      cases a
      exact .cons _ _ (ih _ b)
theorem script_of {l : OpenLaw} {n : Nat} (hn : l.most = some n) {P : Params} {h : Heap} {args : List WData} {vals : List Value}
    (hpre : l.row.toRowW.claim.pre args = true) (hwl : WellAll P h vals args) :
    ∃ a vs ns, vals = [Value.ref a] ∧ args = [WData.list (ns.map WData.int)] ∧ h.get? a = some { cls := .type "list", data := .seq vs.toArray } ∧ IntsAre vs ns ∧ ns.length ≤ n := by
  have hsh : WShape.hasAll [] args [.list .int] = true := (pre_splitW hpre).1
  have hc : l.pre.holds [] { args := args } = true := (pre_splitW hpre).2
  obtain ⟨d, r, rfl, h1, h2⟩ := hasAllW_cons hsh
  obtain rfl := hasAllW_nil h2
  obtain ⟨xs, rfl, h3⟩ := hasW_list h1
  obtain ⟨ns, rfl⟩ := items_int h3
  have hlen : ns.length ≤ n := by
    unfold OpenLaw.pre at hc
    have h4 : (WTm.not (.lt (.lit (.int (n : Int))) (.len (.arg 0)))).holds [] { args := [.list (ns.map .int)] } = true := by
      have h4 := (holds_andW hc).1
      rw [hn] at h4
      exact h4
    have h5 := condW_of h4 (w_not (w_lt w_lit (w_len_list (w_arg rfl))))
    rw [List.length_map] at h5
    refine Nat.le_of_not_lt fun q => ?_
    have q' : (n : Int) < ((ns.length : Nat) : Int) := by omega
    first
      | (rw [decide_eq_true q'] at h5; exact absurd h5 (by decide))
      | (simp at h5; omega)
  cases hwl with
  | cons w1 w2 =>
    cases w2
    cases w1 with
    | list ho hall => exact ⟨_, _, ns, rfl, rfl, ho, ints_of_wellAll ns _ hall, hlen⟩
theorem post_true (l : OpenLaw) (args : List WData) : l.row.toRowW.claim.post args (.bool true) args = true :=
  postW_of (r := l.row.toRowW) (X := (true == true))
    (show WShape.has [] (.bool true) .bool = true by first | rfl | decide | simp [WShape.has, WShape.arms, WShape.armsAll])
    (show (WTm.eq .res (.lit (.bool true))).value [] { args := args, res := some (.bool true), after := args } = some (.bool (true == true)) from w_eq_bool (w_res rfl) w_lit) rfl
theorem attach_call {l : OpenLaw} {n : Nat} {q : Program} {loose : List Str} {XP : (Str → Option Value) → Heap → Prop} {YP : World → Heap → Prop} {d : DefRec}
    (hn : l.most = some n) (hdf : d.params.defaults = [])
    (call : ∀ (w : World) (s₀ s₁ : Shared) (mg mb : Str → Option Value) (fa : Addr) (o : Obj) (pm cd doc : Value) (a : Addr) (vs : List Value) (ns : List Int),
      Ground q loose [] XP w s₀ mg mb s₁.heap → YP w s₁.heap →
      s₁.heap.get? fa = some o → o.data = .func (docDef d.name d.params d.body d.scope pm cd doc) → s₁.heap.CodeRec cd d.name → mg d.name = some (.ref fa) →
      s₁.heap.get? a = some { cls := .type "list", data := .seq vs.toArray } → IntsAre vs ns → ns.length ≤ n → s₁.gens = #[] →
      codeAny (model l.prog w) callerA (.call (.ref fa) ⟨[.ref a], []⟩) (fun r s' => r = .ok (.ret (.bool true)) ∧ OldK s₁.heap s'.heap ∧ s'.os = s₁.os ∧ AllBare s'.gens) s₁) :
    WalkO q loose XP YP l.row.toRowW d [] (fun f vs => PySem.call f vs) := by
  intro w s₀ s₁ mg mb G Y fa o pm cd doc dV kV ho hd hcd hD hmg hg args vals as hpre hlay hrd hwl hlo
  obtain rfl : dV = .none := Dflts.none hD hdf
  obtain rfl : kV = .none := Dflts.noKw hD
  obtain ⟨a, vs, ns, rfl, rfl, hobj, hints, hlen⟩ := script_of hn hpre hwl
  refine enter_call (codeAny_mono (call w s₀ s₁ mg mb fa o pm cd doc a vs ns G Y ho (fd_plain hd) hcd hmg hobj hints hlen hg) fun r s' hq => ?_)
  obtain ⟨rfl, h2, h3, h4⟩ := hq
  exact ⟨.inl ⟨.bool true, .bool true, [], rfl, fun _ => rfl, .bool true, post_true l _, fun _ => ⟨List.Pairwise.nil, fun _ hm => (nomatch hm)⟩⟩, h2, h3, h4⟩
section
variable {prog : Program} {w : World} {A : Around} {E : Value → Shared → Prop} {s : Shared} {K : Frag}
def ledger (h : Heap) (L d : Addr) : List (Addr × Obj) := (List.range h.objs.size).filterMap fun a => if a = L ∨ a = d then none else (h.get? a).map fun o => (a, o)
end
end Att
namespace L2
open PySem PySem.Spec PyProof.Rows
theorem vals_ints : ∀ {vs : List Value} {ns : List Int}, IntsAre vs ns → Vals (ns.map V.int) vs
  | _, _, .nil => .nil
  | _, _, .cons n t h => .cons ⟨t, rfl⟩ (vals_ints h)
def Only (H : Hp) : Prop := ∀ b, H b = none ∨ ∃ o xs, H b = some (.frz o (.lst xs))
theorem law_call {P : Program} {w : World} {K : PySem.W.Frag} {mg mb : Str → Option Value} {CX : CXT} {k : Nat} {fa a : Addr} {fd : FuncData} {x : Str} {sp : Sp} {s₁ : Shared} {vs : List Value} {ns : List Int}
    (KX : K.In s₁.heap) (hns : s₁.heap.Ns mainGlobals mg) (hb : s₁.heap.Ns builtinsNs mb) (hbb : ∀ x : Str, x ≠ "__name__" → mb x = bootBuiltins x) (hlim : s₁.heap.NoLimit) (hg : s₁.gens = #[])
    (ha : s₁.heap.get? a = some { cls := .type "list", data := .seq vs.toArray }) (hi : IntsAre vs ns) (hl : ns.length ≤ sizeLine) (hr : Room k callerA)
    (F : ∀ base : Heap, K.In base → base.Ns mainGlobals mg → FnOk P w K mg base CX k fa fd [x] sp) (hbind : ∀ (s : Shared) (u : Value), BindsTo s fd ⟨[u], []⟩ [(x, u)])
    (hsp : ∀ H : Hp, Only H → SqL K H a (ns.map V.int) → sp [.ref a] H (fun v _ => v = .bl true) fun _ _ _ => False)
    (hCX : ∀ H e s', CX [] H s₁ (fun _ _ _ => False) e s' → False) :
    codeAny (model P w) callerA (.call (.ref fa) ⟨[.ref a], []⟩) (fun r s' => r = .ok (.ret (.bool true)) ∧ OldK s₁.heap s'.heap ∧ s'.os = s₁.os ∧ AllBare s'.gens) s₁ := by
  have rv := vals_ints hi
  have lenV := hi.length
  -- from an abstract heap in which nothing but the script may be tracked
  have core : ∀ H : Hp, Only H → SqL K H a (ns.map V.int) → HOk P w H s₁.heap → (∀ b, H b ≠ none → b = a) → (H a ≠ none → K.lookup a = none) →
      codeAny (model P w) callerA (.call (.ref fa) ⟨[.ref a], []⟩) (fun r s' => r = .ok (.ret (.bool true)) ∧ OldK s₁.heap s'.heap ∧ s'.os = s₁.os ∧ AllBare s'.gens) s₁ := by
    intro H hO hS hok hA hK
    have base_of : ∀ {b : Addr} {o : Obj}, s₁.heap.get? b = some o → H b = none → (hidT s₁.heap H).get? b = some o := fun e n => hidT_get e n
    have noA : ∀ {b : Addr} {o : Obj} {es : Array DictEntry} {ep : Nat}, s₁.heap.get? b = some o → o.data = .dict es ep → H b = none := fun {b o es ep} e d => by
      cases q : H b with
      | none => rfl
      | some u =>
        have e' : b = a := hA b (by rw [q]; simp)
        subst e'
        rw [ha] at e; cases e
        have d' : Data.seq vs.toArray _ = Data.dict es ep := d
        cases d'
    have nsK : ∀ {b : Addr} {m : Str → Option Value}, s₁.heap.Ns b m → (hidT s₁.heap H).Ns b m := fun {b m} ⟨o, es, ep, e, d, r⟩ => ⟨o, es, ep, base_of e (noA e d), d, r⟩
    have hKb : K.In (hidT s₁.heap H) := fun b o e => base_of (KX b o e) (by
      cases q : H b with
      | none => rfl
      | some u =>
        have e' : b = a := hA b (by rw [q]; simp)
        subst e'
        rw [hK (by rw [q]; simp)] at e; cases e)
    have hM : Mod K mg (hidT s₁.heap H) := ⟨hKb, nsK hns, ⟨mb, nsK hb, hbb⟩, let ⟨mc, h1, h2⟩ := hlim; ⟨mc, nsK h1, h2⟩⟩
    have e0 : Env0 P w K mg (hidT s₁.heap H) callerA [] s₁ H := ⟨rfl, hM, fun b o e => of_hidT e, Nat.le_of_eq (hidT_size _ _), trivial, fun b hb => absurd (show b ∈ ([] : List Addr) from hb) (by simp), hok, .of_eq hg⟩
    refine codeAny_mono ((F _ hKb (nsK hns)).run callerA [] s₁ H ⟨[.ref a], []⟩ [.ref a] [.ref a] _ _ hr e0 (hbind s₁ (.ref a)) (.cons rfl .nil) (hsp H hO hS)) fun r s' h => ?_
    cases r with
    | error e => exact (hCX H e s' h).elim
    | ok fl =>
      cases fl with
      | next => exact False.elim h
      | brk => exact False.elim h
      | cont => exact False.elim h
      | ret u =>
        obtain ⟨v, H', os, bare, un, hok', r', q⟩ := h
        have q' : v = .bl true := q
        subst q'
        obtain rfl : u = Value.bool true := r'
        refine ⟨rfl, OldK.of_keep fun b o e => ?_, os, bare⟩
        cases q : H b with
        | none => exact un.keep b o e q (by intro z; exact absurd (show b ∈ ([] : List Addr) from z) (by simp)) (by simp)
        | some u =>
          rcases hO b with z | ⟨ob, xs, z⟩
          · rw [q] at z; cases z
          · have z2 := un.frzs b ob _ z
            obtain ⟨e1, _⟩ := hok b _ z
            obtain ⟨e2, _⟩ := hok' b _ z2
            rw [e] at e1; cases e1
            exact e2
  cases hk : K.lookup a with
  | some o =>
    -- the script is one of the module's own objects
    have e := KX a o hk
    rw [ha] at e
    cases e
    refine core (fun _ => none) (fun _ => .inl rfl) (.inr ⟨_, vs.toArray, _, hk, rfl, rfl, rfl, by rw [List.size_toArray, lenV]; exact hl, by simpa using rv⟩) (fun b u z => by have z' : (none : Option HO) = some u := z; cases z') (fun b z => absurd rfl z) fun z => absurd rfl z
  | none =>
    refine core (fun b => if b = a then some (.frz { cls := .type "list", data := .seq vs.toArray } (.lst (ns.map V.int))) else none) (fun b => ?_) (.inl (.inr ⟨{ cls := .type "list", data := .seq vs.toArray }, if_pos rfl⟩)) (fun b u z => ?_) (fun b z => ?_) fun _ => hk
    · by_cases hb : b = a
      · exact .inr ⟨_, _, if_pos hb⟩
      · exact .inl (if_neg hb)
    · by_cases hb : b = a
      · have z' := (if_pos hb).symm.trans z
        cases z'
        subst hb
        exact ⟨ha, by rw [List.length_map]; exact hl, vs, _, rv, ha⟩
      · have z' := (if_neg hb).symm.trans z
        cases z'
    · by_cases hb : b = a
      · exact hb
      · exact absurd (if_neg hb) z
end L2
namespace L2
open PySem PySem.Spec PyProof.Rows
theorem walk_of {l : PySem.W.OpenLaw} {n k : Nat} {q : Program} {loose : List Str} {XP : (Str → Option Value) → Heap → Prop} {YP : World → Heap → Prop} {d : DefRec} {K : Params → PySem.W.Frag} {CX : World → CXT} {sp : World → Sp} {x : Str}
    (hn : l.most = some n) (hn2 : n ≤ sizeLine) (hdf : d.params.defaults = []) (hr : Room k callerA)
    (hY : ∀ (w : World) (h : Heap), YP w h → (K w.params).In h)
    (F : ∀ (w : World) (mg : Str → Option Value) (fa : Addr) (h : Heap), (K w.params).In h → h.Ns mainGlobals mg → mg d.name = some (.ref fa) →
      ∃ fd : FuncData, (∀ (s : Shared) (u : Value), BindsTo s fd ⟨[u], []⟩ [(x, u)]) ∧
        ∀ base : Heap, (K w.params).In base → base.Ns mainGlobals mg → FnOk l.prog w (K w.params) mg base (CX w) k fa fd [x] (sp w))
    (hsp : ∀ (w : World) (H : Hp) (a : Addr) (ns : List Int), ns.length ≤ n → Only H → SqL (K w.params) H a (ns.map V.int) → sp w [.ref a] H (fun v _ => v = .bl true) fun _ _ _ => False)
    (hCX : ∀ (w : World) (H : Hp) (s : Shared) (e : Value) (s' : Shared), CX w [] H s (fun _ _ _ => False) e s' → False) :
    PySem.W.WalkO q loose XP YP l.row.toRowW d [] (fun f vs => PySem.call f vs) := by
  refine Att.attach_call hn hdf fun w s₀ s₁ mg mb fa o pm cd doc a vs ns G Y ho hd hcd hmg hobj hints hlen hg => ?_
  have KX := hY w _ Y
  obtain ⟨fd, hb, hF⟩ := F w mg fa _ KX G.T.g hmg
  exact law_call KX G.T.g G.T.b G.T.builtins G.T.nolimit hg hobj hints (Nat.le_trans hlen hn2) hr hF hb (fun H hO hS => hsp w H a ns hlen hO hS) fun H e s' => hCX w H s₁ e s'
theorem walk_ofK {l : PySem.W.OpenLaw} {n k : Nat} {q : Program} {loose : List Str} {XP : (Str → Option Value) → Heap → Prop} {YP : World → Heap → Prop} {d : DefRec} {K : Params → PySem.W.Frag} {CX : CXT} {sp : PySem.W.Frag → Sp} {x : Str}
    (hn : l.most = some n) (hn2 : n ≤ sizeLine) (hdf : d.params.defaults = []) (hr : Room k callerA)
    (hY : ∀ (w : World) (h : Heap), YP w h → (K w.params).In h)
    (F : ∀ (w : World) (mg : Str → Option Value) (fa : Addr) (h : Heap), (K w.params).In h → h.Ns mainGlobals mg → mg d.name = some (.ref fa) →
      ∃ fd : FuncData, (∀ (s : Shared) (u : Value), BindsTo s fd ⟨[u], []⟩ [(x, u)]) ∧
        ∀ base : Heap, (K w.params).In base → base.Ns mainGlobals mg → FnOk l.prog w (K w.params) mg base CX k fa fd [x] (sp (K w.params)))
    (hsp : ∀ (K : PySem.W.Frag) (H : Hp) (a : Addr) (ns : List Int), ns.length ≤ n → Only H → SqL K H a (ns.map V.int) → sp K [.ref a] H (fun v _ => v = .bl true) fun _ _ _ => False)
    (hCX : ∀ (H : Hp) (s : Shared) (e : Value) (s' : Shared), CX [] H s (fun _ _ _ => False) e s' → False) :
    PySem.W.WalkO q loose XP YP l.row.toRowW d [] (fun f vs => PySem.call f vs) :=
  walk_of (K := K) (CX := fun _ => CX) (sp := fun w => sp (K w.params)) hn hn2 hdf hr hY F (fun w H a ns h1 h2 h3 => hsp (K w.params) H a ns h1 h2 h3) fun _ H s e s' => hCX H s e s'
end L2
namespace L2
open PySem PySem.Spec PyProof.Rows
def defArgs (s : Stmt) : Arguments := match s with
  | .FunctionDef _ a _ _ _ _ _ _ _ _ => a
  | _ => { posonlyargs := [], args := [], vararg := none, kwonlyargs := [], kw_defaults := [], kwarg := none, defaults := [] }
def defBody (s : Stmt) : List Stmt := match s with
  | .FunctionDef _ _ b _ _ _ _ _ _ _ => b
  | _ => []
def defScope (s : Stmt) : Scope := match s with
  | .FunctionDef _ _ _ _ _ _ sc _ _ _ => sc
  | _ => { kind := .function, names := [], isGenerator := false, isCoroutine := false }
abbrev CX0 : CXT := fun _ _ _ _ _ _ => False
abbrev E0 : XK := fun _ _ _ => False
theorem pass0 {X : Cx} : Passes CX0 X E0 := fun _ _ _ _ _ _ _ h => h.elim
structure Fun (K : PySem.W.Frag) (x qual : Str) (st : Stmt) (f : Addr) (fd : FuncData) : Prop where
  ex : ∃ (oc : Value) (od : Option Addr) (kV doc pm : Value) (an : Option Addr) (cdv ct : Value) (osl : Array (Option Value)),
    fd = PySem.W.fnOf x qual (defArgs st) (defBody st) (defScope st) .none kV doc pm an cdv ct ∧ K.lookup f = some ⟨oc, od, .func fd, osl⟩ ∧ PySem.W.codeIn K cdv qual = true
  kp : PySem.W.keepIn K (.ref f) = true
section
variable {P : Program} {w : World} {K : PySem.W.Frag} {mg : Str → Option Value} {base : Heap}
theorem Fun.ok {x qual : Str} {st : Stmt} {f : Addr} {fd : FuncData} {N ps : List Str} {k : Nat} {sp : Sp} (F : Fun K x qual st f fd) (S : FnScope N ps (defScope st)) (len : ∀ vs H Q E, sp vs H Q E → vs.length = ps.length)
    (hbody : ∀ (cdv : Value) (A : Around) (outer : List Env) (s : Shared) (H : Hp) (vs : List V) (Q : VK) (E : XK), Room k (A.deeper (envOfC qual (defScope st) s.heap.objs.size f cdv)) → sp vs H Q E →
      ∃ t, PSs (cxOf CX0 P w K mg base N qual (defScope st) f cdv A outer s H E).nox (defBody st) t ∧ t { nx := fun _ H' => Q .non H', rt := Q } (start N vs) H) : FnOk P w K mg base CX0 (k + 1) f fd ps sp := by
  obtain ⟨oc, od, kV, doc, pm, an, cdv, ct, osl, rfl, lk, hcd⟩ := F.ex
  refine fn_of lk hcd S len fun A outer s H vs Q E hr hsp => ?_
  obtain ⟨t, h, q⟩ := hbody cdv A outer s H vs Q E hr hsp
  exact ⟨t, h.nox, q⟩
theorem Fun.binds {x qual : Str} {st : Stmt} {f : Addr} {fd : FuncData} {ps : List Str} (F : Fun K x qual st f fd)
    (h : ∀ (kV doc pm : Value) (an : Option Addr) (cdv ct : Value) (us : List Value), us.length = ps.length → bindArgs (PySem.W.fnOf x qual (defArgs st) (defBody st) (defScope st) .none kV doc pm an cdv ct) ⟨us, []⟩ = pure (ps.zip us)) : Binds K fd ps [] := by
  obtain ⟨oc, od, kV, doc, pm, an, cdv, ct, osl, rfl, lk, hcd⟩ := F.ex
  exact .all (h kV doc pm an cdv ct)
theorem fun_mk {x qual : Str} {st : Stmt} {f : Addr} {oc : Value} {od an : Option Addr} {osl : Array (Option Value)} {kV doc pm cdv ct : Value} (l : K.lookup f = some ⟨oc, od, .func (PySem.W.fnOf x qual (defArgs st) (defBody st) (defScope st) .none kV doc pm an cdv ct), osl⟩)
    (c : PySem.W.codeIn K cdv qual = true) (k : PySem.W.keepIn K (.ref f) = true) : Fun K x qual st f (PySem.W.fnOf x qual (defArgs st) (defBody st) (defScope st) .none kV doc pm an cdv ct) := ⟨⟨oc, od, kV, doc, pm, an, cdv, ct, osl, rfl, l, c⟩, k⟩
end
theorem small1000 {n : Nat} (h : n ≤ 1000) : n < sizeLine := Nat.lt_of_le_of_lt h (by decide)
section
variable {X : Cx}
theorem pv (i : Nat) {x : Str} {pos : Pos} (hN : X.N[i]? = some x := by rfl) (hv : Vis X.env.scope x := by first | exact Or.inl rfl | exact Or.inr (Or.inl rfl) | exact Or.inr (Or.inr rfl)) (hd : (x == ("__debug__" : Str)) = false := by decide)
    (hcd : (x == ("__classdict__" : Str)) = false := by decide) : PE X (.Name x pos) (tVar i) := pe_var hN hv hd hcd
end
theorem iteF {A B : Prop} (h : B) : if false = true then A else B := by
  rw [if_neg Bool.false_ne_true]
  exact h
theorem iteT {A B : Prop} (h : A) : if true = true then A else B := by
  rw [if_pos rfl]
  exact h
def Same (H H' : Hp) : Prop := ∀ b o, H b = some o → H' b = some o
theorem Same.trans {H H1 H2 : Hp} (a : Same H H1) (b : Same H1 H2) : Same H H2 := fun c o h => b c o (a c o h)
theorem Same.free {H H' : Hp} (e : Same H H') {l : Addr} (h : H' l = Option.none) : H l = Option.none := by
  cases q : H l with
  | none => rfl
  | some o =>
    rw [e l o q] at h
    cases h
theorem Same.seq {K : PySem.W.Frag} {H H' : Hp} {a : Addr} {xs : List V} (e : Same H H') (h : SqL K H a xs) : SqL K H' a xs := by
  rcases h with (h | ⟨o, h⟩) | h
  · exact .inl (.inl (e _ _ h))
  · exact .inl (.inr ⟨o, e _ _ h⟩)
  · exact .inr h
end L2
namespace L2
open PySem PySem.Spec PyProof.Rows
section
variable {κ : Type} [DecidableEq κ]
end
end L2
set_option Elab.async false
set_option linter.all false
set_option maxRecDepth 100000
set_option maxHeartbeats 4000000
namespace FL
open PySem PySem.Spec PyProof.Rows L2
abbrev St := L2.St
inductive D where
  | non
  | bl (b : Bool)
  | int (i : Int)
  | str (x : Str)
  | tup (ds : List D)
  | lst (ds : List D)
  deriving Inhabited
mutual
def Has (K : PySem.W.Frag) (H : Hp) : D → V → Prop
  | .non, v => v = .non
  | .bl b, v => v = .bl b
  | .int i, v => v = .int i
  | .str x, v => v = .str x
  | .tup ds, v => ∃ a xs, v = .ref a ∧ SqT K H a xs ∧ HasL K H ds xs
  | .lst ds, v => ∃ a xs, v = .ref a ∧ SqL K H a xs ∧ HasL K H ds xs
def HasL (K : PySem.W.Frag) (H : Hp) : List D → List V → Prop
  | [], xs => xs = []
  | d :: ds, xs => ∃ x r, xs = x :: r ∧ Has K H d x ∧ HasL K H ds r
end
theorem sameR {H : Hp} : Same H H := fun _ _ e => e
theorem sameT {K : PySem.W.Frag} {H H' : Hp} {a : Addr} {xs : List V} (e : Same H H') (h : SqT K H a xs) : SqT K H' a xs := by
  rcases h with (h | ⟨o, h⟩) | h
  · exact .inl (.inl (e _ _ h))
  · exact .inl (.inr ⟨o, e _ _ h⟩)
  · exact .inr h
section
variable {K : PySem.W.Frag} {H H' : Hp}
mutual
theorem Has.mono (s : Same H H') : ∀ {d : D} {v : V}, Has K H d v → Has K H' d v
  | .non, _, h => by unfold Has at h ⊢; exact h
  | .bl _, _, h => by unfold Has at h ⊢; exact h
  | .int _, _, h => by unfold Has at h ⊢; exact h
  | .str _, _, h => by unfold Has at h ⊢; exact h
  | .tup ds, v, h => by
    unfold Has at h ⊢
    obtain ⟨a, xs, e, q, l⟩ := h
    exact ⟨a, xs, e, sameT s q, HasL.mono s l⟩
  | .lst ds, v, h => by
    unfold Has at h ⊢
    obtain ⟨a, xs, e, q, l⟩ := h
    exact ⟨a, xs, e, s.seq q, HasL.mono s l⟩
theorem HasL.mono (s : Same H H') : ∀ {ds : List D} {xs : List V}, HasL K H ds xs → HasL K H' ds xs
  | [], _, h => by unfold HasL at h ⊢; exact h
  | d :: ds, xs, h => by
    unfold HasL at h ⊢
    obtain ⟨x, r, e, h1, h2⟩ := h
    exact ⟨x, r, e, Has.mono s h1, HasL.mono s h2⟩
end
theorem Has.non_iff {v : V} : Has K H .non v ↔ v = .non := by unfold Has; rfl
theorem Has.bl_iff {b : Bool} {v : V} : Has K H (.bl b) v ↔ v = .bl b := by unfold Has; rfl
theorem Has.int_iff {i : Int} {v : V} : Has K H (.int i) v ↔ v = .int i := by unfold Has; rfl
theorem Has.str_iff {x : Str} {v : V} : Has K H (.str x) v ↔ v = .str x := by unfold Has; rfl
theorem Has.tup_iff {ds : List D} {v : V} : Has K H (.tup ds) v ↔ ∃ a xs, v = .ref a ∧ SqT K H a xs ∧ HasL K H ds xs := by
  constructor
  · intro h; unfold Has at h; exact h
  · intro h; unfold Has; exact h
theorem Has.lst_iff {ds : List D} {v : V} : Has K H (.lst ds) v ↔ ∃ a xs, v = .ref a ∧ SqL K H a xs ∧ HasL K H ds xs := by
  constructor
  · intro h; unfold Has at h; exact h
  · intro h; unfold Has; exact h
theorem HasL.nil_iff {xs : List V} : HasL K H [] xs ↔ xs = [] := by unfold HasL; rfl
theorem HasL.cons_iff {d : D} {ds : List D} {xs : List V} : HasL K H (d :: ds) xs ↔ ∃ x r, xs = x :: r ∧ Has K H d x ∧ HasL K H ds r := by
  constructor
  · intro h; unfold HasL at h; exact h
  · intro h; unfold HasL; exact h
theorem HasL.nil : HasL K H [] [] := HasL.nil_iff.mpr rfl
theorem HasL.cons {d : D} {ds : List D} {x : V} {xs : List V} (h : Has K H d x) (t : HasL K H ds xs) : HasL K H (d :: ds) (x :: xs) := HasL.cons_iff.mpr ⟨x, xs, rfl, h, t⟩
theorem HasL.length : ∀ {ds : List D} {xs : List V}, HasL K H ds xs → xs.length = ds.length
  | [], _, h => by rw [HasL.nil_iff] at h; subst h; rfl
  | d :: ds, xs, h => by
    obtain ⟨x, r, e, _, h2⟩ := HasL.cons_iff.mp h
    subst e
    simp [HasL.length h2]
theorem HasL.get : ∀ {ds : List D} {xs : List V} {i : Nat} {d : D}, HasL K H ds xs → ds[i]? = some d → ∃ v, xs[i]? = some v ∧ Has K H d v
  | [], _, _, _, _, e => by simp at e
  | d :: ds, xs, i, d', h, e => by
    obtain ⟨x, r, e', h1, h2⟩ := HasL.cons_iff.mp h
    subst e'
    cases i with
    | zero => simp at e; subst e; exact ⟨x, rfl, h1⟩
    | succ i =>
      obtain ⟨v, q1, q2⟩ := HasL.get (i := i) (d := d') h2 (by simpa using e)
      exact ⟨v, by simpa using q1, q2⟩
theorem HasL.append : ∀ {ds es : List D} {xs ys : List V}, HasL K H ds xs → HasL K H es ys → HasL K H (ds ++ es) (xs ++ ys)
  | [], _, _, _, h, h' => by rw [HasL.nil_iff] at h; subst h; exact h'
  | d :: ds, es, xs, ys, h, h' => by
    obtain ⟨x, r, e, h1, h2⟩ := HasL.cons_iff.mp h
    subst e
    exact .cons h1 (HasL.append h2 h')
theorem HasL.drop : ∀ {ds : List D} {xs : List V} (n : Nat), HasL K H ds xs → HasL K H (ds.drop n) (xs.drop n)
  | _, _, 0, h => by simpa using h
  | [], _, n + 1, h => by rw [HasL.nil_iff] at h; subst h; simpa using HasL.nil
  | d :: ds, xs, n + 1, h => by
    obtain ⟨x, r, e, h1, h2⟩ := HasL.cons_iff.mp h
    subst e
    exact HasL.drop n h2
theorem HasL.take : ∀ {ds : List D} {xs : List V} (n : Nat), HasL K H ds xs → HasL K H (ds.take n) (xs.take n)
  | _, _, 0, h => by simpa using HasL.nil
  | [], _, n + 1, h => by rw [HasL.nil_iff] at h; subst h; simpa using HasL.nil
  | d :: ds, xs, n + 1, h => by
    obtain ⟨x, r, e, h1, h2⟩ := HasL.cons_iff.mp h
    subst e
    exact .cons h1 (HasL.take n h2)
theorem HasL.reverse {ds : List D} {xs : List V} (h : HasL K H ds xs) : HasL K H ds.reverse xs.reverse := by
  induction ds generalizing xs with
  | nil => rw [HasL.nil_iff] at h; subst h; exact HasL.nil
  | cons d ds ih =>
    obtain ⟨x, r, e, h1, h2⟩ := HasL.cons_iff.mp h
    subst e
    rw [List.reverse_cons, List.reverse_cons]
    exact (ih h2).append (.cons h1 .nil)
theorem HasL.ints : ∀ (ns : List Int), HasL K H (ns.map D.int) (ns.map V.int)
  | [] => .nil
  | n :: ns => .cons (Has.int_iff.mpr rfl) (HasL.ints ns)
end
inductive Slot where
  | no
  | fr (d : D)
  | ol (ds : List D)
  | oT (kvs : List (List Key × D))
  | oK (kvs : List (Key × D))
  deriving Inhabited
def Slot.own : Slot → Bool
  | .ol _ => true
  | .oT _ => true
  | .oK _ => true
  | _ => false
abbrev Rho := List Slot
def KVs (K : PySem.W.Frag) (H : Hp) {κ : Type} : List (κ × D) → List (κ × V) → Prop := Paired fun p q => p.1 = q.1 ∧ Has K H p.2 q.2
theorem KVs.mono {K : PySem.W.Frag} {H H' : Hp} {κ : Type} (s : Same H H') {l : List (κ × D)} {m : List (κ × V)} (h : KVs K H l m) : KVs K H' l m := Paired.mapP h fun _ _ z => ⟨z.1, Has.mono s z.2⟩
def OwnOk (K : PySem.W.Frag) (H Hf : Hp) (a : Addr) : Slot → Prop
  | .ol ds => ∃ xs, H a = some (.lst xs) ∧ HasL K Hf ds xs
  | .oT kvs => ∃ ws, H a = some (.dT ws) ∧ KVs K Hf kvs ws
  | .oK kvs => ∃ ws, H a = some (.dK ws) ∧ KVs K Hf kvs ws
  | _ => True
theorem OwnOk.mono {K : PySem.W.Frag} {H Hf H' Hf' : Hp} {a : Addr} {sl : Slot} (h : OwnOk K H Hf a sl) (k : ∀ o, H a = some o → H' a = some o) (s : Same Hf Hf') : OwnOk K H' Hf' a sl := by
  cases sl with
  | no => trivial
  | fr d => trivial
  | ol ds => obtain ⟨xs, e, q⟩ := h; exact ⟨xs, k _ e, q.mono s⟩
  | oT kvs => obtain ⟨xs, e, q⟩ := h; exact ⟨xs, k _ e, KVs.mono s q⟩
  | oK kvs => obtain ⟨xs, e, q⟩ := h; exact ⟨xs, k _ e, KVs.mono s q⟩
theorem OwnOk.there {K : PySem.W.Frag} {H Hf : Hp} {a : Addr} {sl : Slot} (h : OwnOk K H Hf a sl) (ow : sl.own = true) : ∃ o, H a = some o := by
  cases sl with
  | no => cases ow
  | fr d => cases ow
  | ol ds => obtain ⟨xs, e, q⟩ := h; exact ⟨_, e⟩
  | oT kvs => obtain ⟨xs, e, q⟩ := h; exact ⟨_, e⟩
  | oK kvs => obtain ⟨xs, e, q⟩ := h; exact ⟨_, e⟩
def Tp (o : HO) : Prop := ∃ ks : List Key, o = .tup (ks.map kV)
structure Rep (K : PySem.W.Frag) (H₀ Hf₀ : Hp) (σ : St) (ρ : Rho) (H Hf : Hp) : Prop where
  s0 : Same H₀ H
  sf : Same Hf H
  nf : ∀ b o, Hf b = some o → Hf₀ b = some o ∨ H₀ b = none ∨ Tp o
  f0 : Same Hf₀ Hf
  len : ρ.length = σ.length
  fr : ∀ (i : Nat) (d : D), ρ[i]? = some (.fr d) → ∃ v, σ[i]? = some (some v) ∧ Has K Hf d v
  ow : ∀ (i : Nat) (sl : Slot), ρ[i]? = some sl → sl.own = true → ∃ a, σ[i]? = some (some (.ref a)) ∧ OwnOk K H Hf a sl ∧ Hf a = none ∧ H₀ a = none
  inj : ∀ (i j : Nat) (sl sl' : Slot) (a : Addr), ρ[i]? = some sl → sl.own = true → ρ[j]? = some sl' → sl'.own = true → σ[i]? = some (some (.ref a)) → σ[j]? = some (some (.ref a)) → i = j
theorem OwnOk.notTp {K : PySem.W.Frag} {H Hf H' : Hp} {a : Addr} {sl : Slot} {u : HO} (h : OwnOk K H Hf a sl) (ow : sl.own = true) (k : ∀ o, H a = some o → H' a = some o) (z : H' a = some u) (t : Tp u) : False := by
  obtain ⟨ks, rfl⟩ := t
  cases sl with
  | no => cases ow
  | fr d => cases ow
  | ol ds => obtain ⟨xs, e, q⟩ := h; have := (k _ e).symm.trans z; cases this
  | oT kvs => obtain ⟨xs, e, q⟩ := h; have := (k _ e).symm.trans z; cases this
  | oK kvs => obtain ⟨xs, e, q⟩ := h; have := (k _ e).symm.trans z; cases this
section
variable {K : PySem.W.Frag} {H₀ Hf₀ : Hp} {σ : St} {ρ : Rho} {H Hf H' Hf' : Hp}
theorem Rep.grow (R : Rep K H₀ Hf₀ σ ρ H Hf) (h1 : Same H H') (h2 : Same Hf Hf') (h3 : Same Hf' H') (h4 : ∀ b o, Hf' b = some o → Hf b = some o ∨ H b = none ∨ Tp o) : Rep K H₀ Hf₀ σ ρ H' Hf' where
  s0 := R.s0.trans h1
  sf := h3
  nf := fun b o e => by
    rcases h4 b o e with q | q | q
    · exact R.nf b o q
    · exact .inr (.inl (R.s0.free q))
    · exact .inr (.inr q)
  f0 := R.f0.trans h2
  len := R.len
  fr := fun i d e => by
    obtain ⟨v, q1, q2⟩ := R.fr i d e
    exact ⟨v, q1, q2.mono h2⟩
  ow := fun i sl e o => by
    obtain ⟨a, q1, q2, q3, q4⟩ := R.ow i sl e o
    refine ⟨a, q1, q2.mono (fun o e => h1 _ _ e) h2, ?_, q4⟩
    obtain ⟨ob, qo⟩ := q2.there o
    cases z : Hf' a with
    | none => rfl
    | some u =>
      rcases h4 a u z with y | y | y
      · rw [q3] at y; cases y
      · rw [qo] at y; cases y
      · exact (q2.notTp o (fun o => h1 a o) (h3 _ _ z) y).elim
  inj := R.inj
theorem Rep.lay (R : Rep K H₀ Hf₀ σ ρ H Hf) {p : Addr} {o : HO} (hp : H p = none) : Rep K H₀ Hf₀ σ ρ (upd H p o) (upd Hf p o) := by
  have hfp : Hf p = none := R.sf.free hp
  refine R.grow (fun b u e => ?_) (fun b u e => ?_) (fun b u e => ?_) (fun b u e => ?_)
  · rw [upd_ne (ne_of_none e hp)]; exact e
  · rw [upd_ne (ne_of_none e hfp)]; exact e
  · by_cases hb : b = p
    · subst hb; rw [upd_same] at e ⊢; exact e
    · rw [upd_ne hb] at e ⊢; exact R.sf b u e
  · by_cases hb : b = p
    · subst hb; exact .inr (.inl hp)
    · rw [upd_ne hb] at e; exact .inl e
theorem Rep.layN (R : Rep K H₀ Hf₀ σ ρ H Hf) {p : Addr} {o : HO} (hp : H p = none) : Rep K H₀ Hf₀ σ ρ (upd H p o) Hf := by
  refine R.grow (fun b u e => ?_) sameR (fun b u e => ?_) (fun b u e => .inl e)
  · rw [upd_ne (ne_of_none e hp)]; exact e
  · rw [upd_ne (ne_of_none (R.sf b u e) hp)]; exact R.sf b u e
theorem same_upd {p : Addr} {o : HO} (hp : H p = none) : Same H (upd H p o) := fun b u e => by rw [upd_ne (ne_of_none e hp)]; exact e
theorem Rep.set (R : Rep K H₀ Hf₀ σ ρ H Hf) {d : D} {v : V} (i : Nat) (h : Has K Hf d v) : Rep K H₀ Hf₀ (σ.set i (some v)) (ρ.set i (.fr d)) H Hf where
  s0 := R.s0
  sf := R.sf
  nf := R.nf
  f0 := R.f0
  len := by simp [R.len]
  fr := fun j d' e => by
    rw [List.getElem?_set] at e ⊢
    by_cases hj : i = j
    · rw [if_pos hj] at e ⊢
      split at e
      · cases e
        rename_i hl
        rw [R.len] at hl
        rw [if_pos hl]
        exact ⟨v, rfl, h⟩
      · cases e
    · rw [if_neg hj] at e ⊢
      exact R.fr j d' e
  ow := fun j sl e o => by
    rw [List.getElem?_set] at e ⊢
    by_cases hj : i = j
    · rw [if_pos hj] at e
      split at e
      · cases e; cases o
      · cases e
    · rw [if_neg hj] at e ⊢
      exact R.ow j sl e o
  inj := fun j k sl sl' a e o e' o' z z' => by
    rw [List.getElem?_set] at e e' z z'
    by_cases hj : i = j
    · rw [if_pos hj] at e
      split at e
      · cases e; cases o
      · cases e
    · by_cases hk : i = k
      · rw [if_pos hk] at e'
        split at e'
        · cases e'; cases o'
        · cases e'
      · rw [if_neg hj] at e z
        rw [if_neg hk] at e' z'
        exact R.inj j k sl sl' a e o e' o' z z'
theorem Rep.setOwn (R : Rep K H₀ Hf₀ σ ρ H Hf) {sl : Slot} {a : Addr} (i : Nat) (ho : sl.own = true) (h : OwnOk K H Hf a sl) (hf : Hf a = none) (h0 : H₀ a = none)
    (fresh : ∀ (j : Nat) (sl' : Slot), ρ[j]? = some sl' → sl'.own = true → σ[j]? ≠ some (some (.ref a))) : Rep K H₀ Hf₀ (σ.set i (some (.ref a))) (ρ.set i sl) H Hf where
  s0 := R.s0
  sf := R.sf
  nf := R.nf
  f0 := R.f0
  len := by simp [R.len]
  fr := fun j d' e => by
    rw [List.getElem?_set] at e ⊢
    by_cases hj : i = j
    · rw [if_pos hj] at e
      split at e
      · cases e; cases ho
      · cases e
    · rw [if_neg hj] at e ⊢
      exact R.fr j d' e
  ow := fun j sl' e o => by
    rw [List.getElem?_set] at e ⊢
    by_cases hj : i = j
    · rw [if_pos hj] at e ⊢
      split at e
      · cases e
        rename_i hl
        rw [R.len] at hl
        rw [if_pos hl]
        exact ⟨a, rfl, h, hf, h0⟩
      · cases e
    · rw [if_neg hj] at e ⊢
      exact R.ow j sl' e o
  inj := fun j k s1 s2 b e o e' o' z z' => by
    rw [List.getElem?_set] at e e' z z'
    by_cases hj : i = j
    · by_cases hk : i = k
      · omega
      · rw [if_pos hj] at z
        rw [if_neg hk] at e' z'
        split at z
        · cases z
          exact absurd z' (fresh k s2 e' o')
        · cases z
    · by_cases hk : i = k
      · rw [if_pos hk] at z'
        rw [if_neg hj] at e z
        split at z'
        · cases z'
          exact absurd z (fresh j s1 e o)
        · cases z'
      · rw [if_neg hj] at e z
        rw [if_neg hk] at e' z'
        exact R.inj j k s1 s2 b e o e' o' z z'
theorem Rep.updOwn (R : Rep K H₀ Hf₀ σ ρ H Hf) {sl sl' : Slot} {a : Addr} {o : HO} {i : Nat} (e : ρ[i]? = some sl) (ho : sl.own = true) (ea : σ[i]? = some (some (.ref a))) (ho' : sl'.own = true) (h : OwnOk K (upd H a o) Hf a sl') :
    Rep K H₀ Hf₀ σ (ρ.set i sl') (upd H a o) Hf := by
  obtain ⟨a', q1, q2, q3, q4⟩ := R.ow i sl e ho
  rw [ea] at q1; cases q1
  have hil : i < ρ.length := (List.getElem?_eq_some_iff.mp e).1
  refine ⟨fun b u z => ?_, fun b u z => ?_, R.nf, R.f0, by simp [R.len], fun j d z => ?_, fun j s1 z oz => ?_, fun j k s1 s2 b z oz z' oz' y y' => ?_⟩
  · rw [upd_ne (ne_of_none z q4)]; exact R.s0 b u z
  · rw [upd_ne (ne_of_none z q3)]; exact R.sf b u z
  · rw [List.getElem?_set] at z
    by_cases hj : i = j
    · rw [if_pos hj, if_pos hil] at z
      cases z; cases ho'
    · rw [if_neg hj] at z
      exact R.fr j d z
  · rw [List.getElem?_set] at z
    by_cases hj : i = j
    · rw [if_pos hj, if_pos hil] at z
      cases z
      subst hj
      exact ⟨a, ea, h, q3, q4⟩
    · rw [if_neg hj] at z
      obtain ⟨b, p1, p2, p3, p4⟩ := R.ow j s1 z oz
      refine ⟨b, p1, p2.mono (fun u q => ?_) sameR, p3, p4⟩
      rw [upd_ne]
      · exact q
      · rintro rfl
        exact hj (R.inj i j sl s1 b e ho z oz ea p1)
  · have own_at : ∀ (j : Nat) (s1 : Slot), (ρ.set i sl')[j]? = some s1 → s1.own = true → ∃ s2, ρ[j]? = some s2 ∧ s2.own = true := fun j s1 z oz => by
      rw [List.getElem?_set] at z
      by_cases hj : i = j
      · subst hj; exact ⟨sl, e, ho⟩
      · rw [if_neg hj] at z; exact ⟨s1, z, oz⟩
    obtain ⟨t1, u1, v1⟩ := own_at j s1 z oz
    obtain ⟨t2, u2, v2⟩ := own_at k s2 z' oz'
    exact R.inj j k t1 t2 b u1 v1 u2 v2 y y'
theorem Rep.freeze (R : Rep K H₀ Hf₀ σ ρ H Hf) {ds : List D} {i : Nat} (e : ρ[i]? = some (.ol ds)) : ∃ Hf', Same Hf Hf' ∧ Rep K H₀ Hf₀ σ (ρ.set i (.fr (.lst ds))) H Hf' := by
  obtain ⟨a, q1, ⟨xs, q2, q2'⟩, q3, q4⟩ := R.ow i _ e rfl
  have hil : i < ρ.length := (List.getElem?_eq_some_iff.mp e).1
  have sm : Same Hf (upd Hf a (.lst xs)) := same_upd q3
  refine ⟨upd Hf a (.lst xs), sm, R.s0, fun b u z => ?_, fun b u z => ?_, R.f0.trans sm, by simp [R.len], fun j d z => ?_, fun j s1 z oz => ?_, fun j k s1 s2 b z oz z' oz' y y' => ?_⟩
  · by_cases hb : b = a
    · subst hb; rw [upd_same] at z; cases z; exact q2
    · rw [upd_ne hb] at z; exact R.sf b u z
  · by_cases hb : b = a
    · subst hb; exact .inr (.inl q4)
    · rw [upd_ne hb] at z; exact R.nf b u z
  · rw [List.getElem?_set] at z
    by_cases hj : i = j
    · rw [if_pos hj, if_pos hil] at z
      cases z
      subst hj
      exact ⟨_, q1, Has.lst_iff.mpr ⟨a, xs, rfl, SqL.of upd_same, q2'.mono sm⟩⟩
    · rw [if_neg hj] at z
      obtain ⟨v, p1, p2⟩ := R.fr j d z
      exact ⟨v, p1, p2.mono sm⟩
  · rw [List.getElem?_set] at z
    by_cases hj : i = j
    · rw [if_pos hj, if_pos hil] at z
      cases z; cases oz
    · rw [if_neg hj] at z
      obtain ⟨b, p1, p2, p3, p4⟩ := R.ow j s1 z oz
      refine ⟨b, p1, p2.mono (fun u q => q) sm, ?_, p4⟩
      rw [upd_ne]
      · exact p3
      · rintro rfl
        exact hj (R.inj i j _ s1 b e rfl z oz q1 p1)
  · have own_at : ∀ (j : Nat) (s1 : Slot), (ρ.set i (.fr (.lst ds)))[j]? = some s1 → s1.own = true → ρ[j]? = some s1 := fun j s1 z oz => by
      rw [List.getElem?_set] at z
      by_cases hj : i = j
      · rw [if_pos hj, if_pos hil] at z
        cases z; cases oz
      · rw [if_neg hj] at z; exact z
    exact R.inj j k s1 s2 b (own_at j s1 z oz) oz (own_at k s2 z' oz') oz' y y'
end
end FL
set_option Elab.async false
set_option linter.all false
set_option maxRecDepth 100000
set_option maxHeartbeats 4000000
namespace FL
open PySem PySem.Spec PyProof.Rows L2
abbrev FE := Rho → Option D
abbrev FT := Rho → Option Bool
abbrev FA := Rho → Option (List D)
inductive Out where
  | nx (ρ : Rho)
  | rt (d : D)
  | bk (ρ : Rho)
  | ct (ρ : Rho)
abbrev FS := Rho → Option Out
def HasR (K : PySem.W.Frag) (Hf : Hp) (σ : St) (ρ : Rho) (d : D) (v : V) : Prop := Has K Hf d v ∨ ∃ (i : Nat) (ds : List D), d = .lst ds ∧ ρ[i]? = some (.ol ds) ∧ σ[i]? = some (some v)
theorem HasR.mono {K : PySem.W.Frag} {Hf Hf' : Hp} {σ : St} {ρ : Rho} {d : D} {v : V} (h : HasR K Hf σ ρ d v) (s : Same Hf Hf') : HasR K Hf' σ ρ d v := h.imp (Has.mono s) id
def tF (K : PySem.W.Frag) (f : FE) : TE := fun σ H Q => ∃ H₀ Hf₀ ρ Hf d, Rep K H₀ Hf₀ σ ρ H Hf ∧ f ρ = some d ∧
  ∀ v H' Hf', Rep K H₀ Hf₀ σ ρ H' Hf' → Same H H' → Same Hf Hf' → Has K Hf' d v → Q v H'
def tR (K : PySem.W.Frag) (f : FE) : TE := fun σ H Q => ∃ H₀ Hf₀ ρ Hf d, Rep K H₀ Hf₀ σ ρ H Hf ∧ f ρ = some d ∧
  ∀ v H' Hf', Rep K H₀ Hf₀ σ ρ H' Hf' → Same H H' → Same Hf Hf' → HasR K Hf' σ ρ d v → Q v H'
def tN (K : PySem.W.Frag) (f : FA) : TE := fun σ H Q => ∃ H₀ Hf₀ ρ Hf ds, Rep K H₀ Hf₀ σ ρ H Hf ∧ f ρ = some ds ∧
  ∀ a xs H' Hf', Rep K H₀ Hf₀ σ ρ H' Hf' → Same H H' → Same Hf Hf' → HasL K Hf' ds xs → H' a = some (.lst xs) → Hf' a = none → H a = none → Q (.ref a) H'
def tT (K : PySem.W.Frag) (f : FT) : TT := fun σ H Q => ∃ H₀ Hf₀ ρ Hf b, Rep K H₀ Hf₀ σ ρ H Hf ∧ f ρ = some b ∧
  ∀ H' Hf', Rep K H₀ Hf₀ σ ρ H' Hf' → Same H H' → Same Hf Hf' → Q b H'
def tAF (K : PySem.W.Frag) (f : FA) : TA := fun σ H Q => ∃ H₀ Hf₀ ρ Hf ds, Rep K H₀ Hf₀ σ ρ H Hf ∧ f ρ = some ds ∧
  ∀ vs H' Hf', Rep K H₀ Hf₀ σ ρ H' Hf' → Same H H' → Same Hf Hf' → HasL K Hf' ds vs → Q vs H'
def HasRL (K : PySem.W.Frag) (Hf : Hp) (σ : St) (ρ : Rho) : List D → List V → Prop := Paired (HasR K Hf σ ρ)
def tAR (K : PySem.W.Frag) (f : FA) : TA := fun σ H Q => ∃ H₀ Hf₀ ρ Hf ds, Rep K H₀ Hf₀ σ ρ H Hf ∧ f ρ = some ds ∧
  ∀ vs H' Hf', Rep K H₀ Hf₀ σ ρ H' Hf' → Same H H' → Same Hf Hf' → HasRL K Hf' σ ρ ds vs → Q vs H'
def EndO (K : PySem.W.Frag) (H₀ Hf₀ Hf : Hp) (D' : Ends) : Out → Prop
  | .nx ρ' => ∀ σ' H' Hf', Rep K H₀ Hf₀ σ' ρ' H' Hf' → Same Hf Hf' → D'.nx σ' H'
  | .bk ρ' => ∀ σ' H' Hf', Rep K H₀ Hf₀ σ' ρ' H' Hf' → Same Hf Hf' → D'.bk σ' H'
  | .ct ρ' => ∀ σ' H' Hf', Rep K H₀ Hf₀ σ' ρ' H' Hf' → Same Hf Hf' → D'.ct σ' H'
  | .rt d => ∀ v σ' ρ' H' Hf', Rep K H₀ Hf₀ σ' ρ' H' Hf' → Same Hf Hf' → Has K Hf' d v → D'.rt v H'
def tS (K : PySem.W.Frag) (F : FS) : TS := fun D' σ H => ∃ H₀ Hf₀ ρ Hf o, Rep K H₀ Hf₀ σ ρ H Hf ∧ F ρ = some o ∧ EndO K H₀ Hf₀ Hf D' o
def DE (X : Cx) (e : Expr) (f : FE) : Prop := PE X e (tF X.K f)
def DR (X : Cx) (e : Expr) (f : FE) : Prop := PE X e (tR X.K f)
def DN (X : Cx) (e : Expr) (f : FA) : Prop := PE X e (tN X.K f)
def DT (X : Cx) (e : Expr) (f : FT) : Prop := PT X e (tT X.K f)
def DW (X : Cx) (e : Expr) (f : FT) : Prop := PW X e (tT X.K f)
def DA (X : Cx) (es : List Expr) (f : FA) : Prop := PA X es (tAF X.K f)
def DAR (X : Cx) (es : List Expr) (f : FA) : Prop := PA X es (tAR X.K f)
def DS (X : Cx) (st : Stmt) (F : FS) : Prop := PS X st (tS X.K F)
def DSs (X : Cx) (sts : List Stmt) (F : FS) : Prop := PSs X sts (tS X.K F)
section
variable {X : Cx} {e a b c : Expr} {es : List Expr} {f g h : FE} {fa ga : FA} {ft gt : FT} {pos : Pos} {t t' : TE}
theorem pe_imp (h : PE X e t) (i : ∀ σ H Q, t' σ H Q → t σ H Q) : PE X e t' := fun pins s σ H Q I hw => h pins s σ H Q I (i _ _ _ hw)
theorem pt_imp {t t' : TT} (h : PT X e t) (i : ∀ σ H Q, t' σ H Q → t σ H Q) : PT X e t' := fun pins s σ H Q I hw => h pins s σ H Q I (i _ _ _ hw)
theorem pw_imp {t t' : TT} (h : PW X e t) (i : ∀ σ H Q, t' σ H Q → t σ H Q) : PW X e t' := fun wh pins s σ H Q I hw => h wh pins s σ H Q I (i _ _ _ hw)
theorem pa_imp {t t' : TA} (h : PA X es t) (i : ∀ σ H Q, t' σ H Q → t σ H Q) : PA X es t' := fun p pins s σ H Q I hw => h p pins s σ H Q I (i _ _ _ hw)
theorem ps_imp {st : Stmt} {t t' : TS} (h : PS X st t) (i : ∀ D σ H, t' D σ H → t D σ H) : PS X st t' := fun pins s σ H D I hw => h pins s σ H D I (i _ _ _ hw)
theorem pss_imp {sts : List Stmt} {t t' : TS} (h : PSs X sts t) (i : ∀ D σ H, t' D σ H → t D σ H) : PSs X sts t' := fun pins s σ H D I hw => h pins s σ H D I (i _ _ _ hw)
theorem DE.dr (he : DE X e f) : DR X e f := pe_imp he fun σ H Q ⟨H₀, Hf₀, ρ, Hf, d, R, q, k⟩ => ⟨H₀, Hf₀, ρ, Hf, d, R, q, fun v H' Hf' R' s1 s2 hv => k v H' Hf' R' s1 s2 (.inl hv)⟩
def mapLst (fa : FA) : FE := fun ρ => (fa ρ).map D.lst
theorem DN.de (he : DN X e fa) : DE X e (mapLst fa) := pe_imp he fun σ H Q ⟨H₀, Hf₀, ρ, Hf, d, R, q, k⟩ => by
  unfold mapLst at q
  cases hq : fa ρ with
  | none => rw [hq] at q; cases q
  | some ds =>
    rw [hq] at q; cases q
    refine ⟨H₀, Hf₀, ρ, Hf, ds, R, hq, fun a xs H' Hf' R' s1 s2 hl ha hn hh => ?_⟩
    have sm : Same Hf' (upd Hf' a (.lst xs)) := same_upd hn
    have h0 : H₀ a = none := R.s0.free hh
    refine k (.ref a) H' (upd Hf' a (.lst xs)) ?_ s1 (s2.trans sm) (Has.lst_iff.mpr ⟨a, xs, rfl, SqL.of upd_same, hl.mono sm⟩)
    refine ⟨R'.s0, fun b u z => ?_, fun b u z => ?_, R'.f0.trans sm, R'.len, fun i d z => ?_, fun i sl z o => ?_, R'.inj⟩
    · by_cases hb : b = a
      · subst hb; rw [upd_same] at z; cases z; exact ha
      · rw [upd_ne hb] at z; exact R'.sf b u z
    · by_cases hb : b = a
      · subst hb; exact .inr (.inl h0)
      · rw [upd_ne hb] at z; exact R'.nf b u z
    · obtain ⟨v, p1, p2⟩ := R'.fr i d z
      exact ⟨v, p1, p2.mono sm⟩
    · obtain ⟨b, p1, p2, p3, p4⟩ := R.ow i sl z o
      obtain ⟨b', r1, r2, r3, r4⟩ := R'.ow i sl z o
      rw [p1] at r1; cases r1
      refine ⟨b, p1, r2.mono (fun u q => q) sm, ?_, r4⟩
      rw [upd_ne]
      · exact r3
      · rintro rfl
        obtain ⟨o', q'⟩ := p2.there o
        rw [q'] at hh; cases hh
def vF (i : Nat) : FE := fun ρ => match ρ[i]? with
  | some (.fr d) => some d
  | _ => none
theorem dv (i : Nat) {x : Str} (hN : X.N[i]? = some x := by rfl) (hv : Vis X.env.scope x := by first | exact Or.inl rfl | exact Or.inr (Or.inl rfl) | exact Or.inr (Or.inr rfl)) (hd : (x == ("__debug__" : Str)) = false := by decide)
    (hcd : (x == ("__classdict__" : Str)) = false := by decide) : DE X (.Name x pos) (vF i) :=
  pe_imp (pe_var hN hv hd hcd) fun σ H Q ⟨H₀, Hf₀, ρ, Hf, d, R, q, k⟩ => by
    unfold vF at q
    split at q
    · cases q
      rename_i e
      obtain ⟨v, e1, e2⟩ := R.fr i d e
      exact ⟨v, e1, k v H Hf R sameR sameR e2⟩
    · cases q
def cF (d : D) : FE := fun _ => some d
theorem d_int {i : Int} {j pos} : DE X (.Constant (.int i) j pos) (cF (.int i)) := pe_imp pe_int fun σ H Q ⟨H₀, Hf₀, ρ, Hf, d, R, q, k⟩ => by cases q; exact k _ _ _ R sameR sameR (Has.int_iff.mpr rfl)
theorem d_bl {i : Bool} {j pos} : DE X (.Constant (.bool i) j pos) (cF (.bl i)) := pe_imp pe_bl fun σ H Q ⟨H₀, Hf₀, ρ, Hf, d, R, q, k⟩ => by cases q; exact k _ _ _ R sameR sameR (Has.bl_iff.mpr rfl)
theorem d_str {x : Str} {j pos} : DE X (.Constant (.str x) j pos) (cF (.str x)) := pe_imp pe_str fun σ H Q ⟨H₀, Hf₀, ρ, Hf, d, R, q, k⟩ => by cases q; exact k _ _ _ R sameR sameR (Has.str_iff.mpr rfl)
def scalV : D → Option V
  | .non => some .non
  | .bl b => some (.bl b)
  | .int i => some (.int i)
  | .str x => some (.str x)
  | _ => none
theorem d_glob {x : Str} {d : D} {v : V} {u : Value} {pos : Pos} (hg : Gl X x) (hm : X.mg x = some u) (hs : scalV d = some v) (r : RelV v u) (hd : (x == ("__debug__" : Str)) = false := by decide) : DE X (.Name x pos) (cF d) :=
  pe_imp (pe_glob hg hm r hd) fun σ H Q ⟨H₀, Hf₀, ρ, Hf, d', R, q, k⟩ => by
    cases q
    refine k _ _ _ R sameR sameR ?_
    cases d <;> cases hs
    · exact Has.non_iff.mpr rfl
    · exact Has.bl_iff.mpr rfl
    · exact Has.int_iff.mpr rfl
    · exact Has.str_iff.mpr rfl
def bind2 (φ : D → D → Option D) (f g : FE) : FE := fun ρ => (f ρ).bind fun x => (g ρ).bind fun y => φ x y
def OpD (X : Cx) (r : R2) (φ : D → D → Option D) : Prop :=
  ∀ (σ : St) (ρ : Rho) (H₀ Hf₀ H Hf : Hp) (x y : V) (dx dy d : D) (Q : VK), Rep X.K H₀ Hf₀ σ ρ H Hf → HasR X.K Hf σ ρ dx x → HasR X.K Hf σ ρ dy y → φ dx dy = some d →
    (∀ v H' Hf', Rep X.K H₀ Hf₀ σ ρ H' Hf' → Same H H' → Same Hf Hf' → Has X.K Hf' d v → Q v H') → r x y H Q
theorem tOp_of {r : R2} {φ : D → D → Option D} (hφ : OpD X r φ) (σ : St) (H : Hp) (Q : VK) (hh : tF X.K (bind2 φ f g) σ H Q) : tOp r (tR X.K f) (tR X.K g) σ H Q := by
  obtain ⟨H₀, Hf₀, ρ, Hf, d, R, q, k⟩ := hh
  unfold bind2 at q
  cases hf : f ρ with
  | none => rw [hf] at q; cases q
  | some dx =>
    cases hg : g ρ with
    | none => rw [hf, hg] at q; cases q
    | some dy =>
      rw [hf, hg] at q
      refine ⟨H₀, Hf₀, ρ, Hf, dx, R, hf, fun v H1 Hf1 R1 s1 t1 h1 => ⟨H₀, Hf₀, ρ, Hf1, dy, R1, hg, fun u H2 Hf2 R2 s2 t2 h2 => ?_⟩⟩
      exact hφ σ ρ H₀ Hf₀ H2 Hf2 v u dx dy d Q R2 (h1.mono t2) h2 q fun w' H3 Hf3 R3 s3 t3 h3 => k w' H3 Hf3 R3 ((s1.trans s2).trans s3) ((t1.trans t2).trans t3) h3
theorem d_op {op : Operator} {r : R2} {φ : D → D → Option D} (ho : OpR X (binaryOp op) r) (hφ : OpD X r φ) (ha : DR X a f) (hb : DR X b g) : DE X (.BinOp a op b pos) (bind2 φ f g) :=
  pe_imp (pe_op ho ha hb) (tOp_of hφ)
theorem d_cmp {op : CmpOp} {r : R2} {φ : D → D → Option D} (ho : OpR X (compareOp op) r) (hφ : OpD X r φ) (ha : DR X a f) (hb : DR X b g) (hm : behindInMarks op b = false) : DE X (.Compare a [op] [b] pos) (bind2 φ f g) :=
  pe_imp (pe_cmpR ho ha hb hm) (tOp_of hφ)
theorem d_ix0 {r : R2} {φ : D → D → Option D} (ho : IxR X r) (hφ : OpD X r φ) (ha : DR X a f) (hb : DR X b g) (hs : PlainIx b) : DE X (.Subscript a b pos) (bind2 φ f g) :=
  pe_imp (pe_ix ho ha hb hs) (tOp_of hφ)
section
variable {K : PySem.W.Frag} {H₀ Hf₀ : Hp} {σ : St} {ρ : Rho} {H Hf : Hp} {v : V}
theorem HasR.int {i : Int} (h : HasR K Hf σ ρ (.int i) v) : v = .int i := by
  rcases h with h | ⟨_, _, e, _⟩
  · exact Has.int_iff.mp h
  · cases e
theorem HasR.bl {i : Bool} (h : HasR K Hf σ ρ (.bl i) v) : v = .bl i := by
  rcases h with h | ⟨_, _, e, _⟩
  · exact Has.bl_iff.mp h
  · cases e
theorem HasR.str {i : Str} (h : HasR K Hf σ ρ (.str i) v) : v = .str i := by
  rcases h with h | ⟨_, _, e, _⟩
  · exact Has.str_iff.mp h
  · cases e
theorem HasR.tup {ds : List D} (h : HasR K Hf σ ρ (.tup ds) v) (R : Rep K H₀ Hf₀ σ ρ H Hf) : ∃ a xs, v = .ref a ∧ SqT K H a xs ∧ HasL K Hf ds xs := by
  rcases h with h | ⟨_, _, e, _⟩
  · obtain ⟨a, xs, e, q, l⟩ := Has.tup_iff.mp h
    exact ⟨a, xs, e, sameT R.sf q, l⟩
  · cases e
theorem HasR.lst {ds : List D} (h : HasR K Hf σ ρ (.lst ds) v) (R : Rep K H₀ Hf₀ σ ρ H Hf) : ∃ a xs, v = .ref a ∧ SqL K H a xs ∧ HasL K Hf ds xs := by
  rcases h with h | ⟨i, ds', e, e1, e2⟩
  · obtain ⟨a, xs, e, q, l⟩ := Has.lst_iff.mp h
    exact ⟨a, xs, e, R.sf.seq q, l⟩
  · cases e
    obtain ⟨a, p1, ⟨xs, p2, p3⟩, _⟩ := R.ow i _ e1 rfl
    rw [e2] at p1; cases p1
    exact ⟨a, xs, rfl, SqL.of p2, p3⟩
end
def iiD (φ : Int → Int → Option D) : D → D → Option D
  | .int i, .int j => φ i j
  | _, _ => none
theorem iiD_some {φ : Int → Int → Option D} {x y d : D} (h : iiD φ x y = some d) : ∃ i j, x = .int i ∧ y = .int j ∧ φ i j = some d := by
  cases x <;> cases y <;> first | cases h | exact ⟨_, _, rfl, rfl, h⟩
theorem has_scal {K : PySem.W.Frag} {H : Hp} {d : D} {v : V} (h : scalV d = some v) : Has K H d v := by
  cases d <;> cases h
  · exact Has.non_iff.mpr rfl
  · exact Has.bl_iff.mpr rfl
  · exact Has.int_iff.mpr rfl
  · exact Has.str_iff.mpr rfl
theorem opD_ii {C : Int → Int → Prop} {gv : Int → Int → V} {φ : Int → Int → Option D} (h : ∀ i j d, φ i j = some d → C i j ∧ scalV d = some (gv i j)) : OpD X (rI C gv) (iiD φ) := by
  intro σ ρ H₀ Hf₀ H Hf x y dx dy d Q R hx hy hφ k
  obtain ⟨i, j, rfl, rfl, hd⟩ := iiD_some hφ
  obtain ⟨c, s⟩ := h i j d hd
  exact ⟨i, j, hx.int, hy.int, c, k _ _ _ R sameR sameR (has_scal s)⟩
theorem opD_ii0 {gv : Int → Int → V} {φ : Int → Int → Option D} (h : ∀ i j d, φ i j = some d → scalV d = some (gv i j)) : OpD X (rI0 gv) (iiD φ) := by
  intro σ ρ H₀ Hf₀ H Hf x y dx dy d Q R hx hy hφ k
  obtain ⟨i, j, rfl, rfl, hd⟩ := iiD_some hφ
  exact ⟨i, j, hx.int, hy.int, k _ _ _ R sameR sameR (has_scal (h i j d hd))⟩
end
end FL
set_option Elab.async false
set_option linter.all false
set_option maxRecDepth 100000
set_option maxHeartbeats 4000000
namespace FL
open PySem PySem.Spec PyProof.Rows L2
def big : Nat := 2 ^ 8000
theorem bits_big {i : Int} (h : i.natAbs < big) : Builtin.Int.intBits i ≤ 8001 := by
  unfold Builtin.Int.intBits
  split
  · exact Nat.zero_le _
  · have : i.natAbs.log2 < 8000 := by
      rcases Nat.eq_zero_or_pos i.natAbs with h0 | hp
      · rw [h0]; decide
      · exact (Nat.log2_lt (Nat.ne_of_gt hp)).mpr h
    omega
def MulB (i j : Int) : Prop := i.natAbs < 2 ^ 64 ∨ j.natAbs < 2 ^ 64 ∨ (i.natAbs < big ∧ j.natAbs < big)
instance (i j : Int) : Decidable (MulB i j) := by unfold MulB; exact inferInstance
theorem MulB.ok {i j : Int} (h : MulB i j) : IntMulOk i j := by
  rcases h with h | h | ⟨h1, h2⟩
  · exact .of_left (intBits_le_64 (by omega) (by omega))
  · exact .of_right (intBits_le_64 (by omega) (by omega))
  · exact IntMulOk.of_le (bits_big h1) (bits_big h2) (by decide)
def DivB (j : Int) : Prop := 0 < j ∧ j < 2 ^ 64
instance (j : Int) : Decidable (DivB j) := by unfold DivB; exact inferInstance
def PowB (i j : Int) : Prop := 0 ≤ j ∧ j ≤ 1000 ∧ i.natAbs < big
instance (i j : Int) : Decidable (PowB i j) := by unfold PowB; exact inferInstance
section
variable {X : Cx} {e a b c : Expr} {es : List Expr} {f g h : FE} {fa ga : FA} {ft gt : FT} {pos : Pos} {t t' : TE}
theorem op_mulG : OpR X (binaryOp .Mult) (rI MulB fun i j => .int (i * j)) := opI fun _ _ _ _ _ _ _ hc q => mul_int q hc.ok
theorem op_fdivG : OpR X (binaryOp .FloorDiv) (rI (fun _ j => DivB j) fun i j => .int (i / j)) := opI fun i j _ _ _ _ _ hc q => by
  have h1 : (0 : Int) < j := hc.1
  have h2 : j < 2 ^ 64 := hc.2
  refine floordiv_int (by omega) (by rw [Int.fdiv_eq_ediv_of_nonneg i (by omega)]; exact q) (.inl (PyProof.noPylong_of_log2 ?_))
  have hn : j.natAbs < 2 ^ 64 := by omega
  have : j.natAbs.log2 < 64 := (Nat.log2_lt (by omega)).mpr hn
  omega
theorem op_powG : OpR X (binaryOp .Pow) (rI PowB fun i j => .int (i ^ j.toNat)) := opI fun i j _ _ _ _ _ hc q => by
  obtain ⟨h1, h2, h3⟩ := hc
  refine pow_int h1 ?_ q
  have hb := bits_big h3
  have : (Builtin.Int.intBits i : Int) * j ≤ 8001 * 1000 := Int.mul_le_mul (by omega) h2 h1 (by decide)
  exact Int.le_trans this (by decide)
def mulD : D → D → Option D := iiD fun i j => if MulB i j then some (.int (i * j)) else none
def subD : D → D → Option D := iiD fun i j => some (.int (i - j))
def modD : D → D → Option D := iiD fun i j => if 0 < j then some (.int (i % j)) else none
def fdivD : D → D → Option D := iiD fun i j => if DivB j then some (.int (i / j)) else none
def powD : D → D → Option D := iiD fun i j => if PowB i j then some (.int (i ^ j.toNat)) else none
theorem opD_mul : OpD X (rI MulB fun i j => .int (i * j)) mulD := opD_ii fun i j d q => by
  split at q
  · cases q; exact ⟨by assumption, rfl⟩
  · cases q
theorem opD_sub : OpD X (rI0 fun i j => .int (i - j)) subD := opD_ii0 fun i j d q => by cases q; rfl
theorem opD_mod : OpD X (rI (fun _ j => 0 < j) fun i j => .int (i % j)) modD := opD_ii fun i j d q => by
  split at q
  · cases q; exact ⟨by assumption, rfl⟩
  · cases q
theorem opD_fdiv : OpD X (rI (fun _ j => DivB j) fun i j => .int (i / j)) fdivD := opD_ii fun i j d q => by
  split at q
  · cases q; exact ⟨by assumption, rfl⟩
  · cases q
theorem opD_pow : OpD X (rI PowB fun i j => .int (i ^ j.toNat)) powD := opD_ii fun i j d q => by
  split at q
  · cases q; exact ⟨by assumption, rfl⟩
  · cases q
theorem d_sub (ha : DR X a f) (hb : DR X b g) : DE X (.BinOp a .Sub b pos) (bind2 subD f g) := d_op op_sub opD_sub ha hb
theorem d_mul (ha : DR X a f) (hb : DR X b g) : DE X (.BinOp a .Mult b pos) (bind2 mulD f g) := d_op op_mulG opD_mul ha hb
theorem d_mod (ha : DR X a f) (hb : DR X b g) : DE X (.BinOp a .Mod b pos) (bind2 modD f g) := d_op op_mod opD_mod ha hb
theorem d_fdiv (ha : DR X a f) (hb : DR X b g) : DE X (.BinOp a .FloorDiv b pos) (bind2 fdivD f g) := d_op op_fdivG opD_fdiv ha hb
theorem d_pow (ha : DR X a f) (hb : DR X b g) : DE X (.BinOp a .Pow b pos) (bind2 powD f g) := d_op op_powG opD_pow ha hb
def addD : D → D → Option D
  | .int i, .int j => some (.int (i + j))
  | .str x, .str y => if x.length + y.length ≤ sizeLine then some (.str (x ++ y)) else none
  | .lst xs, .lst ys => if xs.length + ys.length ≤ sizeLine then some (.lst (xs ++ ys)) else none
  | .tup (x :: xs), .tup ys => if xs.length + 1 + ys.length ≤ sizeLine then some (.tup (x :: xs ++ ys)) else none
  | _, _ => none
def bind1 (φ : D → Option D) (f : FE) : FE := fun ρ => (f ρ).bind φ
def negD : D → Option D
  | .int i => some (.int (-i))
  | _ => none
theorem d_neg (ha : DR X a f) : DE X (.UnaryOp .USub a pos) (bind1 negD f) :=
  pe_imp (pe_un un_neg ha) fun σ H Q ⟨H₀, Hf₀, ρ, Hf, d, R, q, k⟩ => by
    unfold bind1 at q
    cases hf : f ρ with
    | none => rw [hf] at q; cases q
    | some x =>
      rw [hf] at q
      cases x <;> try cases q
      exact ⟨H₀, Hf₀, ρ, Hf, _, R, hf, fun v H1 Hf1 R1 s1 t1 h1 => ⟨_, h1.int, k _ _ _ R1 s1 t1 (Has.int_iff.mpr rfl)⟩⟩
def ltD : D → D → Option D := iiD fun i j => some (.bl (decide (i < j)))
def leD : D → D → Option D := iiD fun i j => some (.bl (decide (i ≤ j)))
def gtD : D → D → Option D := iiD fun i j => some (.bl (decide (j < i)))
def geD : D → D → Option D := iiD fun i j => some (.bl (decide (j ≤ i)))
theorem opD_lt : OpD X (rI0 fun i j => .bl (decide (i < j))) ltD := opD_ii0 fun i j d q => by cases q; rfl
theorem opD_le : OpD X (rI0 fun i j => .bl (decide (i ≤ j))) leD := opD_ii0 fun i j d q => by cases q; rfl
theorem opD_gt : OpD X (rI0 fun i j => .bl (decide (j < i))) gtD := opD_ii0 fun i j d q => by cases q; rfl
theorem opD_ge : OpD X (rI0 fun i j => .bl (decide (j ≤ i))) geD := opD_ii0 fun i j d q => by cases q; rfl
def ixD : D → D → Option D
  | .tup ds, .int i => atI ds i
  | .lst ds, .int i => atI ds i
  | .str z, .int i => if z.length ≤ sizeLine then (atI z.cps.toList i).map fun c => .str ⟨#[c]⟩ else none
  | _, _ => none
theorem HasL.atI {K : PySem.W.Frag} {H : Hp} {ds : List D} {xs : List V} {i : Int} {d : D} (h : HasL K H ds xs) (e : L2.atI ds i = some d) : ∃ v, L2.atI xs i = some v ∧ Has K H d v := by
  unfold L2.atI at e ⊢
  rw [h.length]
  cases hj : ixN ds.length i with
  | none => rw [hj] at e; cases e
  | some j =>
    rw [hj] at e
    exact h.get e
theorem opD_ix : OpD X (rIx X.K) ixD := by
  intro σ ρ H₀ Hf₀ H Hf x y dx dy d Q R hx hy hφ k
  unfold ixD at hφ
  split at hφ
  · obtain ⟨a, xs, rfl, qa, la⟩ := hx.tup R
    obtain ⟨v, e1, e2⟩ := la.atI hφ
    exact .inr (.inl ⟨a, xs, _, v, rfl, hy.int, qa, e1, k _ _ _ R sameR sameR e2⟩)
  · obtain ⟨a, xs, rfl, qa, la⟩ := hx.lst R
    obtain ⟨v, e1, e2⟩ := la.atI hφ
    exact .inl ⟨a, xs, _, v, rfl, hy.int, qa, e1, k _ _ _ R sameR sameR e2⟩
  · split at hφ
    · rename_i z i hz
      cases e : atI z.cps.toList i with
      | none => rw [e] at hφ; cases hφ
      | some c =>
        rw [e] at hφ
        cases hφ
        exact .inr (.inr ⟨z, i, c, hx.str, hy.int, hz, e, k _ _ _ R sameR sameR (Has.str_iff.mpr rfl)⟩)
    · cases hφ
  · cases hφ
theorem d_ix (ha : DR X a f) (hb : DR X b g) (hs : PlainIx b := by intro _ _; rfl) : DE X (.Subscript a b pos) (bind2 ixD f g) := d_ix0 ix_seq opD_ix ha hb hs
def nilA : FA := fun _ => some []
def consA (f : FE) (g : FA) : FA := fun ρ => (f ρ).bind fun x => (g ρ).bind fun xs => some (x :: xs)
theorem consA_some {f : FE} {g : FA} {ρ : Rho} {l : List D} (h : consA f g ρ = some l) : ∃ x xs, f ρ = some x ∧ g ρ = some xs ∧ l = x :: xs := by
  unfold consA at h
  cases hf : f ρ with
  | none => rw [hf] at h; cases h
  | some x =>
    cases hg : g ρ with
    | none => rw [hf, hg] at h; cases h
    | some xs => rw [hf, hg] at h; cases h; exact ⟨x, xs, rfl, rfl, rfl⟩
theorem da_nil : DA X [] nilA := pa_imp pa_nil fun σ H Q ⟨H₀, Hf₀, ρ, Hf, d, R, q, k⟩ => by cases q; exact k _ _ _ R sameR sameR .nil
theorem da_cons (ha : DE X e f) (hr : DA X es fa) (hs : starEach (e :: es) X.env = (false, eval e X.env) :: starEach es X.env := by rfl) : DA X (e :: es) (consA f fa) :=
  pa_imp (pa_cons ha hr hs) fun σ H Q ⟨H₀, Hf₀, ρ, Hf, d, R, q, k⟩ => by
    obtain ⟨x, xs, e1, e2, rfl⟩ := consA_some q
    exact ⟨H₀, Hf₀, ρ, Hf, x, R, e1, fun v H1 Hf1 R1 s1 t1 h1 => ⟨H₀, Hf₀, ρ, Hf1, xs, R1, e2, fun vs H2 Hf2 R2 s2 t2 h2 => k _ _ _ R2 (s1.trans s2) (t1.trans t2) (.cons (h1.mono t2) h2)⟩⟩
theorem dar_nil : DAR X [] nilA := pa_imp pa_nil fun σ H Q ⟨H₀, Hf₀, ρ, Hf, d, R, q, k⟩ => by cases q; exact k _ _ _ R sameR sameR .nil
theorem dar_cons (ha : DR X e f) (hr : DAR X es fa) (hs : starEach (e :: es) X.env = (false, eval e X.env) :: starEach es X.env := by rfl) : DAR X (e :: es) (consA f fa) :=
  pa_imp (pa_cons ha hr hs) fun σ H Q ⟨H₀, Hf₀, ρ, Hf, d, R, q, k⟩ => by
    obtain ⟨x, xs, e1, e2, rfl⟩ := consA_some q
    exact ⟨H₀, Hf₀, ρ, Hf, x, R, e1, fun v H1 Hf1 R1 s1 t1 h1 => ⟨H₀, Hf₀, ρ, Hf1, xs, R1, e2, fun vs H2 Hf2 R2 s2 t2 h2 => k _ _ _ R2 (s1.trans s2) (t1.trans t2) (.cons (h1.mono t2) h2)⟩⟩
def tupF (g : FA) : FE := fun ρ => (g ρ).bind fun xs => if xs.length ≤ sizeLine then some (.tup xs) else none
theorem d_tup {x1} (h : DA X es fa) : DE X (.Tuple es x1 pos) (tupF fa) :=
  pe_imp (pe_tup h) fun σ H Q ⟨H₀, Hf₀, ρ, Hf, d, R, q, k⟩ => by
    unfold tupF at q
    cases hg : fa ρ with
    | none => rw [hg] at q; cases q
    | some xs =>
      rw [hg] at q
      simp only [Option.bind_some] at q
      split at q
      · cases q
        rename_i hl
        refine ⟨H₀, Hf₀, ρ, Hf, xs, R, hg, fun vs H1 Hf1 R1 s1 t1 h1 => ⟨by rw [h1.length]; exact hl, fun p hp => ?_⟩⟩
        have sm := same_upd (o := .tup vs) (R1.sf.free hp)
        exact k _ _ _ (R1.lay hp) (s1.trans (same_upd hp)) (t1.trans sm) (Has.tup_iff.mpr ⟨p, vs, rfl, SqT.of upd_same, h1.mono sm⟩)
      · cases q
def lstF (g : FA) : FA := fun ρ => (g ρ).bind fun xs => if xs.length ≤ sizeLine then some xs else none
theorem dn_lst (h : DA X es fa) : DN X (.List es pos) (lstF fa) :=
  pe_imp (pe_lst h) fun σ H Q ⟨H₀, Hf₀, ρ, Hf, d, R, q, k⟩ => by
    unfold lstF at q
    cases hg : fa ρ with
    | none => rw [hg] at q; cases q
    | some xs =>
      rw [hg] at q
      simp only [Option.bind_some] at q
      split at q
      · cases q
        rename_i hl
        refine ⟨H₀, Hf₀, ρ, Hf, _, R, hg, fun vs H1 Hf1 R1 s1 t1 h1 => ⟨by rw [h1.length]; exact hl, fun p hp => ?_⟩⟩
        exact k _ _ _ _ (R1.layN hp) (s1.trans (same_upd hp)) t1 h1 upd_same (R1.sf.free hp) (s1.free hp)
      · cases q
def blF (f : FE) : FT := fun ρ => (f ρ).bind fun | .bl b => some b | _ => none
theorem blF_some {f : FE} {ρ : Rho} {b : Bool} (h : blF f ρ = some b) : f ρ = some (.bl b) := by
  unfold blF at h
  cases hf : f ρ with
  | none => rw [hf] at h; cases h
  | some x => rw [hf] at h; cases x <;> cases h; rfl
theorem dt_val (h : DR X e f) (he : ∀ whole, isTrue e X.env whole = (do let v ← whole; standAt e.pos; holding [v] (truthy v)) := by intro _; rfl) : DT X e (blF f) :=
  pt_imp (pt_val h he) fun σ H Q ⟨H₀, Hf₀, ρ, Hf, d, R, q, k⟩ => ⟨H₀, Hf₀, ρ, Hf, _, R, blF_some q, fun v H1 Hf1 R1 s1 t1 h1 => ⟨d, h1.bl, k _ _ R1 s1 t1⟩⟩
theorem pt_of_cmp {op : CmpOp} {r : R2} {φ : D → D → Option D} (ho : OpR X (compareOp op) r) (hφ : OpD X r φ) (ha : DR X a f) (hb : DR X b g) (hm : behindInMarks op b = false) : DT X (.Compare a [op] [b] pos) (blF (bind2 φ f g)) :=
  pt_imp (pt_cmpR ho ha hb hm) fun σ H Q ⟨H₀, Hf₀, ρ, Hf, d, R, q, k⟩ => tOp_of hφ σ H _ ⟨H₀, Hf₀, ρ, Hf, _, R, blF_some q, fun v H1 Hf1 R1 s1 t1 h1 => ⟨d, Has.bl_iff.mp h1, k _ _ R1 s1 t1⟩⟩
theorem dt_lt (ha : DR X a f) (hb : DR X b g) : DT X (.Compare a [.Lt] [b] pos) (blF (bind2 ltD f g)) := pt_of_cmp op_lt opD_lt ha hb (nomark _)
theorem dt_gt (ha : DR X a f) (hb : DR X b g) : DT X (.Compare a [.Gt] [b] pos) (blF (bind2 gtD f g)) := pt_of_cmp op_gt opD_gt ha hb (nomark _)
theorem dt_ge (ha : DR X a f) (hb : DR X b g) : DT X (.Compare a [.GtE] [b] pos) (blF (bind2 geD f g)) := pt_of_cmp op_ge opD_ge ha hb (nomark _)
def andT (f g : FT) : FT := fun ρ => (f ρ).bind fun b => if b = true then g ρ else some false
def orT (f g : FT) : FT := fun ρ => (f ρ).bind fun b => if b = true then some true else g ρ
def notT (f : FT) : FT := fun ρ => (f ρ).bind fun b => some (!b)
variable {rest : List Expr}
theorem bindT_some {α : Type} {f : Rho → Option Bool} {k : Bool → Option α} {ρ : Rho} {r : α} (h : (f ρ).bind k = some r) : ∃ b, f ρ = some b ∧ k b = some r := by
  cases hf : f ρ with
  | none => rw [hf] at h; cases h
  | some x => rw [hf] at h; exact ⟨x, rfl, h⟩
theorem dw_and1 (ha : DT X a ft) : DW X (.BoolOp .And [a] pos) ft := pw_and1 ha
theorem dw_or1 (ha : DT X a ft) : DW X (.BoolOp .Or [a] pos) ft := pw_or1 ha
theorem dw_and (ha : DT X a ft) (hb : DW X (.BoolOp .And (b :: rest) pos) gt) : DW X (.BoolOp .And (a :: b :: rest) pos) (andT ft gt) :=
  pw_imp (pw_and ha hb) fun σ H Q ⟨H₀, Hf₀, ρ, Hf, d, R, q, k⟩ => by
    obtain ⟨b, e1, e2⟩ := bindT_some q
    refine ⟨H₀, Hf₀, ρ, Hf, b, R, e1, fun H1 Hf1 R1 s1 t1 => ?_⟩
    cases b with
    | true => exact iteT ⟨H₀, Hf₀, ρ, Hf1, d, R1, e2, fun H2 Hf2 R2 s2 t2 => k _ _ R2 (s1.trans s2) (t1.trans t2)⟩
    | false => cases e2; exact iteF (k _ _ R1 s1 t1)
theorem dw_or (ha : DT X a ft) (hb : DW X (.BoolOp .Or (b :: rest) pos) gt) : DW X (.BoolOp .Or (a :: b :: rest) pos) (orT ft gt) :=
  pw_imp (pw_or ha hb) fun σ H Q ⟨H₀, Hf₀, ρ, Hf, d, R, q, k⟩ => by
    obtain ⟨b, e1, e2⟩ := bindT_some q
    refine ⟨H₀, Hf₀, ρ, Hf, b, R, e1, fun H1 Hf1 R1 s1 t1 => ?_⟩
    cases b with
    | false => exact iteF ⟨H₀, Hf₀, ρ, Hf1, d, R1, e2, fun H2 Hf2 R2 s2 t2 => k _ _ R2 (s1.trans s2) (t1.trans t2)⟩
    | true => cases e2; exact iteT (k _ _ R1 s1 t1)
theorem DW.dt (h : DW X e ft) : DT X e ft := PW.pt h
theorem dt_not (ha : DT X a ft) : DT X (.UnaryOp .Not a pos) (notT ft) :=
  pt_imp (pt_not ha) fun σ H Q ⟨H₀, Hf₀, ρ, Hf, d, R, q, k⟩ => by
    obtain ⟨b, e1, e2⟩ := bindT_some q
    cases e2
    exact ⟨H₀, Hf₀, ρ, Hf, b, R, e1, fun H1 Hf1 R1 s1 t1 => k _ _ R1 s1 t1⟩
def andV (f g : FE) : FE := fun ρ => (f ρ).bind fun | .bl b => (if b = true then g ρ else some (.bl false)) | _ => none
def notV (f : FE) : FE := fun ρ => (f ρ).bind fun | .bl b => some (.bl (!b)) | _ => none
theorem bindV_some {α : Type} {f : FE} {k : D → Option α} {ρ : Rho} {r : α} (h : (f ρ).bind k = some r) : ∃ b, f ρ = some b ∧ k b = some r := by
  cases hf : f ρ with
  | none => rw [hf] at h; cases h
  | some x => rw [hf] at h; exact ⟨x, rfl, h⟩
theorem d_one {op} (h : DE X a f) : DE X (.BoolOp op [a] pos) f := pe_one h
theorem d_and (ha : DE X a f) (hb : DE X (.BoolOp .And (b :: rest) pos) g) : DE X (.BoolOp .And (a :: b :: rest) pos) (andV f g) :=
  pe_imp (pe_and ha hb) fun σ H Q ⟨H₀, Hf₀, ρ, Hf, d, R, q, k⟩ => by
    obtain ⟨x, e1, e2⟩ := bindV_some q
    cases x <;> try cases e2
    rename_i b
    refine ⟨H₀, Hf₀, ρ, Hf, _, R, e1, fun v H1 Hf1 R1 s1 t1 h1 => ⟨b, Has.bl_iff.mp h1, ?_⟩⟩
    cases b with
    | true => exact iteT ⟨H₀, Hf₀, ρ, Hf1, d, R1, e2, fun v H2 Hf2 R2 s2 t2 h2 => k _ _ _ R2 (s1.trans s2) (t1.trans t2) h2⟩
    | false => cases e2; exact iteF (k _ _ _ R1 s1 t1 (Has.bl_iff.mpr rfl))
theorem d_not (ha : DE X a f) : DE X (.UnaryOp .Not a pos) (notV f) :=
  pe_imp (pe_not ha) fun σ H Q ⟨H₀, Hf₀, ρ, Hf, d, R, q, k⟩ => by
    obtain ⟨x, e1, e2⟩ := bindV_some q
    cases x <;> try cases e2
    rename_i b
    exact ⟨H₀, Hf₀, ρ, Hf, _, R, e1, fun v H1 Hf1 R1 s1 t1 h1 => ⟨b, Has.bl_iff.mp h1, k _ _ _ R1 s1 t1 (Has.bl_iff.mpr rfl)⟩⟩
def ifF (c : FT) (f g : FE) : FE := fun ρ => (c ρ).bind fun b => if b = true then f ρ else g ρ
theorem d_ifExp (hc : DT X c ft) (ha : DE X a f) (hb : DE X b g) : DE X (.IfExp c a b pos) (ifF ft f g) :=
  pe_imp (pe_ifExp hc ha hb) fun σ H Q ⟨H₀, Hf₀, ρ, Hf, d, R, q, k⟩ => by
    obtain ⟨x, e1, e2⟩ := bindT_some q
    refine ⟨H₀, Hf₀, ρ, Hf, x, R, e1, fun H1 Hf1 R1 s1 t1 => ?_⟩
    cases x with
    | true => exact iteT ⟨H₀, Hf₀, ρ, Hf1, d, R1, e2, fun v H2 Hf2 R2 s2 t2 h2 => k _ _ _ R2 (s1.trans s2) (t1.trans t2) h2⟩
    | false => exact iteF ⟨H₀, Hf₀, ρ, Hf1, d, R1, e2, fun v H2 Hf2 R2 s2 t2 h2 => k _ _ _ R2 (s1.trans s2) (t1.trans t2) h2⟩
end
end FL
set_option Elab.async false
set_option linter.all false
set_option maxRecDepth 100000
set_option maxHeartbeats 4000000
namespace FL
open PySem PySem.Spec PyProof.Rows L2
mutual
def eqD : D → D → Bool
  | .non, .non => true
  | .bl a, .bl b => a == b
  | .bl a, .int b => (if a then 1 else 0) == b
  | .int a, .bl b => a == (if b then 1 else 0)
  | .int a, .int b => a == b
  | .str a, .str b => a == b
  | .tup a, .tup b => eqDL a b
  | .lst a, .lst b => eqDL a b
  | _, _ => false
def eqDL : List D → List D → Bool
  | [], [] => true
  | x :: xs, y :: ys => eqD x y && eqDL xs ys
  | _, _ => false
end
mutual
def dep : D → Nat
  | .tup a => depL a + 1
  | .lst a => depL a + 1
  | _ => 0
def depL : List D → Nat
  | [] => 0
  | x :: xs => max (dep x) (depL xs)
end
theorem depL_le {l : List D} {k : Nat} (h : ∀ d ∈ l, dep d ≤ k) : depL l ≤ k := by
  induction l with
  | nil => simp [depL]
  | cons x xs ih =>
    unfold depL
    exact Nat.max_le.mpr ⟨h x List.mem_cons_self, ih fun d hd => h d (List.mem_cons_of_mem _ hd)⟩
mutual
theorem eqD_refl : ∀ d : D, eqD d d = true
  | .non => by simp [eqD]
  | .bl b => by simp [eqD]
  | .int i => by simp [eqD]
  | .str x => by simp [eqD]
  | .tup ds => by unfold eqD; exact eqDL_refl ds
  | .lst ds => by unfold eqD; exact eqDL_refl ds
theorem eqDL_refl : ∀ ds : List D, eqDL ds ds = true
  | [] => by simp [eqDL]
  | d :: ds => by unfold eqDL; rw [eqD_refl d, eqDL_refl ds]; rfl
end
theorem eqDL_eq : ∀ (xs ys : List D), eqDL xs ys = ((List.range (min xs.length ys.length)).all (fun j => eqD (xs.getD j .non) (ys.getD j .non)) && xs.length == ys.length)
  | [], [] => by simp [eqDL]
  | [], y :: ys => by simp [eqDL]
  | x :: xs, [] => by simp [eqDL]
  | x :: xs, y :: ys => by
    unfold eqDL
    rw [eqDL_eq xs ys]
    have e : min (x :: xs).length (y :: ys).length = min xs.length ys.length + 1 := by simp only [List.length_cons]; omega
    rw [e, List.range_succ_eq_map, List.all_cons, List.all_map]
    simp [Function.comp_def, Bool.and_assoc]
section
variable {X : Cx} {pins : List (Addr × Obj)} {σ : St} {H Hf : Hp} {s : Shared}
mutual
/-- one value, one datum -/
theorem Has.inj (I : Inv X pins σ H s) : ∀ {d d' : D} {v : V}, Has X.K H d v → Has X.K H d' v → d = d'
  | .non, d', v, h, h' => by
    rw [Has.non_iff] at h; subst h
    cases d' with
    | non => rfl
    | bl b => cases Has.bl_iff.mp h'
    | int b => cases Has.int_iff.mp h'
    | str b => cases Has.str_iff.mp h'
    | tup b => obtain ⟨_, _, e, _⟩ := Has.tup_iff.mp h'; cases e
    | lst b => obtain ⟨_, _, e, _⟩ := Has.lst_iff.mp h'; cases e
  | .bl x, d', v, h, h' => by
    rw [Has.bl_iff] at h; subst h
    cases d' with
    | non => cases Has.non_iff.mp h'
    | bl b => cases Has.bl_iff.mp h'; rfl
    | int b => cases Has.int_iff.mp h'
    | str b => cases Has.str_iff.mp h'
    | tup b => obtain ⟨_, _, e, _⟩ := Has.tup_iff.mp h'; cases e
    | lst b => obtain ⟨_, _, e, _⟩ := Has.lst_iff.mp h'; cases e
  | .int x, d', v, h, h' => by
    rw [Has.int_iff] at h; subst h
    cases d' with
    | non => cases Has.non_iff.mp h'
    | bl b => cases Has.bl_iff.mp h'
    | int b => cases Has.int_iff.mp h'; rfl
    | str b => cases Has.str_iff.mp h'
    | tup b => obtain ⟨_, _, e, _⟩ := Has.tup_iff.mp h'; cases e
    | lst b => obtain ⟨_, _, e, _⟩ := Has.lst_iff.mp h'; cases e
  | .str x, d', v, h, h' => by
    rw [Has.str_iff] at h; subst h
    cases d' with
    | non => cases Has.non_iff.mp h'
    | bl b => cases Has.bl_iff.mp h'
    | int b => cases Has.int_iff.mp h'
    | str b => cases Has.str_iff.mp h'; rfl
    | tup b => obtain ⟨_, _, e, _⟩ := Has.tup_iff.mp h'; cases e
    | lst b => obtain ⟨_, _, e, _⟩ := Has.lst_iff.mp h'; cases e
  | .tup x, d', v, h, h' => by
    obtain ⟨a, xs, rfl, qa, la⟩ := Has.tup_iff.mp h
    cases d' with
    | non => cases Has.non_iff.mp h'
    | bl b => cases Has.bl_iff.mp h'
    | int b => cases Has.int_iff.mp h'
    | str b => cases Has.str_iff.mp h'
    | tup b =>
      obtain ⟨a', ys, e, qb, lb⟩ := Has.tup_iff.mp h'
      cases e
      cases I.tuple_inj qa qb
      rw [HasL.inj I la lb]
    | lst b =>
      obtain ⟨a', ys, e, qb, lb⟩ := Has.lst_iff.mp h'
      cases e
      obtain ⟨its, _, p1, _⟩ := I.tuple qa
      obtain ⟨its', _, p2, _⟩ := I.list qb
      exact absurd rfl (SeqAt.ne_of_list_tuple p2.isList p1)
  | .lst x, d', v, h, h' => by
    obtain ⟨a, xs, rfl, qa, la⟩ := Has.lst_iff.mp h
    cases d' with
    | non => cases Has.non_iff.mp h'
    | bl b => cases Has.bl_iff.mp h'
    | int b => cases Has.int_iff.mp h'
    | str b => cases Has.str_iff.mp h'
    | lst b =>
      obtain ⟨a', ys, e, qb, lb⟩ := Has.lst_iff.mp h'
      cases e
      cases I.list_inj qa qb
      rw [HasL.inj I la lb]
    | tup b =>
      obtain ⟨a', ys, e, qb, lb⟩ := Has.tup_iff.mp h'
      cases e
      obtain ⟨its, _, p1, _⟩ := I.tuple qb
      obtain ⟨its', _, p2, _⟩ := I.list qa
      exact absurd rfl (SeqAt.ne_of_list_tuple p2.isList p1)
theorem HasL.inj (I : Inv X pins σ H s) : ∀ {ds ds' : List D} {xs : List V}, HasL X.K H ds xs → HasL X.K H ds' xs → ds = ds'
  | [], ds', xs, h, h' => by
    rw [HasL.nil_iff] at h; subst h
    cases ds' with
    | nil => rfl
    | cons d r => obtain ⟨_, _, e, _⟩ := HasL.cons_iff.mp h'; cases e
  | d :: ds, ds', xs, h, h' => by
    obtain ⟨x, r, rfl, h1, h2⟩ := HasL.cons_iff.mp h
    cases ds' with
    | nil => rw [HasL.nil_iff] at h'; cases h'
    | cons d' r' =>
      obtain ⟨x', r'', e, h1', h2'⟩ := HasL.cons_iff.mp h'
      cases e
      rw [Has.inj I h1 h1', HasL.inj I h2 h2']
end
open SeqAt in
mutual
theorem eqAt_of (I : Inv X pins σ H s) : ∀ (d : D) (A : Around) (d' : D) (v v' : V) (u u' : Value), Has X.K H d v → Has X.K H d' v' → RelV v u → RelV v' u' → A.units + dep d < cLine → EqAt A s u u' (eqD d d')
  | .non, A, d', v, v', u, u', h, h', r, r', hu => by
    have hu : A.units < cLine := by omega
    rw [Has.non_iff] at h; subst h
    cases r
    cases d' with
    | non => rw [Has.non_iff] at h'; subst h'; cases r'; exact EqAt.same _
    | bl b => rw [Has.bl_iff] at h'; subst h'; cases r'; exact EqAt.none_bool _
    | int b => rw [Has.int_iff] at h'; subst h'; obtain ⟨t, rfl⟩ := r'; exact EqAt.none_int _ _
    | str b => rw [Has.str_iff] at h'; subst h'; obtain ⟨t, rfl⟩ := r'; exact EqAt.none_str _ _
    | tup b => obtain ⟨a, xs, rfl, q, _⟩ := Has.tup_iff.mp h'; cases r'; obtain ⟨its, _, p, _⟩ := I.tuple q; exact EqAt.none_tuple p hu
    | lst b => obtain ⟨a, xs, rfl, q, _⟩ := Has.lst_iff.mp h'; cases r'; obtain ⟨its, _, p, _⟩ := I.list q; exact EqAt.none_list p.isList hu
  | .bl x, A, d', v, v', u, u', h, h', r, r', hu => by
    have hu : A.units < cLine := by omega
    rw [Has.bl_iff] at h; subst h
    cases r
    cases d' with
    | non => rw [Has.non_iff] at h'; subst h'; cases r'; exact EqAt.bool_none _
    | bl b => rw [Has.bl_iff] at h'; subst h'; cases r'; exact EqAt.bool_bool _ _
    | int b => rw [Has.int_iff] at h'; subst h'; obtain ⟨t, rfl⟩ := r'; exact EqAt.bool_int _ _ _
    | str b => rw [Has.str_iff] at h'; subst h'; obtain ⟨t, rfl⟩ := r'; exact EqAt.bool_str _ _ _
    | tup b => obtain ⟨a, xs, rfl, q, _⟩ := Has.tup_iff.mp h'; cases r'; obtain ⟨its, _, p, _⟩ := I.tuple q; exact EqAt.bool_tuple _ p hu
    | lst b => obtain ⟨a, xs, rfl, q, _⟩ := Has.lst_iff.mp h'; cases r'; obtain ⟨its, _, p, _⟩ := I.list q; exact EqAt.bool_list _ p.isList hu
  | .int x, A, d', v, v', u, u', h, h', r, r', hu => by
    have hu : A.units < cLine := by omega
    rw [Has.int_iff] at h; subst h
    obtain ⟨t, rfl⟩ := r
    cases d' with
    | non => rw [Has.non_iff] at h'; subst h'; cases r'; exact EqAt.int_none _ _
    | bl b => rw [Has.bl_iff] at h'; subst h'; cases r'; exact EqAt.int_bool _ _ _
    | int b => rw [Has.int_iff] at h'; subst h'; obtain ⟨t, rfl⟩ := r'; exact EqAt.int_int _ _ _ _
    | str b => rw [Has.str_iff] at h'; subst h'; obtain ⟨t, rfl⟩ := r'; exact EqAt.int_str _ _ _ _
    | tup b => obtain ⟨a, xs, rfl, q, _⟩ := Has.tup_iff.mp h'; cases r'; obtain ⟨its, _, p, _⟩ := I.tuple q; exact EqAt.int_tuple _ _ p hu
    | lst b => obtain ⟨a, xs, rfl, q, _⟩ := Has.lst_iff.mp h'; cases r'; obtain ⟨its, _, p, _⟩ := I.list q; exact EqAt.int_list _ _ p.isList hu
  | .str x, A, d', v, v', u, u', h, h', r, r', hu => by
    have hu : A.units < cLine := by omega
    rw [Has.str_iff] at h; subst h
    obtain ⟨t, rfl⟩ := r
    cases d' with
    | non => rw [Has.non_iff] at h'; subst h'; cases r'; exact EqAt.str_none _ _
    | bl b => rw [Has.bl_iff] at h'; subst h'; cases r'; exact EqAt.str_bool _ _ _
    | int b => rw [Has.int_iff] at h'; subst h'; obtain ⟨t, rfl⟩ := r'; exact EqAt.str_int _ _ _ _
    | str b => rw [Has.str_iff] at h'; subst h'; obtain ⟨t, rfl⟩ := r'; exact EqAt.str_str _ _ _ _
    | tup b => obtain ⟨a, xs, rfl, q, _⟩ := Has.tup_iff.mp h'; cases r'; obtain ⟨its, _, p, _⟩ := I.tuple q; exact EqAt.str_tuple _ _ p hu
    | lst b => obtain ⟨a, xs, rfl, q, _⟩ := Has.lst_iff.mp h'; cases r'; obtain ⟨its, _, p, _⟩ := I.list q; exact EqAt.str_list _ _ p.isList hu
  | .tup x, A, d', v, v', u, u', h, h', r, r', hu => by
    have hu0 : A.units < cLine := by omega
    obtain ⟨a, xs, rfl, q, l⟩ := Has.tup_iff.mp h
    cases r
    obtain ⟨its, rv, p, _⟩ := I.tuple q
    cases d' with
    | non => rw [Has.non_iff] at h'; subst h'; cases r'; exact EqAt.tuple_none p hu0
    | bl b => rw [Has.bl_iff] at h'; subst h'; cases r'; exact EqAt.tuple_bool _ p hu0
    | int b => rw [Has.int_iff] at h'; subst h'; obtain ⟨t, rfl⟩ := r'; exact EqAt.tuple_int _ _ p hu0
    | str b => rw [Has.str_iff] at h'; subst h'; obtain ⟨t, rfl⟩ := r'; exact EqAt.tuple_str _ _ p hu0
    | tup y =>
      obtain ⟨b, ys, rfl, q', l'⟩ := Has.tup_iff.mp h'
      cases r'
      obtain ⟨its', rv', p', _⟩ := I.tuple q'
      by_cases hab : a = b
      · subst hab
        cases Has.inj I h h'
        rw [eqD_refl]
        exact EqAt.same _
      · refine EqAt.of_refs hab ?_
        have e := RcAt.tuples (A := A) (e := fun j => eqD (x.getD j .non) (y.getD j .non)) p p' hu0 (fun j h1 h2 => eqAtL_of I x A.in1 y xs ys its its' l l' rv rv' (by show A.units + 1 + _ < cLine; unfold dep at hu; omega) j (by simpa using h1) (by simpa using h2))
        unfold eqD
        rw [eqDL_eq, ← l.length, ← l'.length, rv.length, rv'.length]
        simpa using e
    | lst y => obtain ⟨b, ys, rfl, q', l'⟩ := Has.lst_iff.mp h'; cases r'; obtain ⟨its', _, p', _⟩ := I.list q'; exact EqAt.tuple_list p p'.isList hu0
  | .lst x, A, d', v, v', u, u', h, h', r, r', hu => by
    have hu0 : A.units < cLine := by omega
    obtain ⟨a, xs, rfl, q, l⟩ := Has.lst_iff.mp h
    cases r
    obtain ⟨its, rv, p, _⟩ := I.list q
    cases d' with
    | non => rw [Has.non_iff] at h'; subst h'; cases r'; exact EqAt.list_none p.isList hu0
    | bl b => rw [Has.bl_iff] at h'; subst h'; cases r'; exact EqAt.list_bool _ p.isList hu0
    | int b => rw [Has.int_iff] at h'; subst h'; obtain ⟨t, rfl⟩ := r'; exact EqAt.list_int _ _ p.isList hu0
    | str b => rw [Has.str_iff] at h'; subst h'; obtain ⟨t, rfl⟩ := r'; exact EqAt.list_str _ _ p.isList hu0
    | lst y =>
      obtain ⟨b, ys, rfl, q', l'⟩ := Has.lst_iff.mp h'
      cases r'
      obtain ⟨its', rv', p', _⟩ := I.list q'
      by_cases hab : a = b
      · subst hab
        cases Has.inj I h h'
        rw [eqD_refl]
        exact EqAt.same _
      · refine EqAt.of_refs hab ?_
        unfold eqD
        rw [eqDL_eq, ← l.length, ← l'.length, rv.length, rv'.length]
        by_cases hl : its.length = its'.length
        · have e := RcAt.lists (A := A) (e := fun j => eqD (x.getD j .non) (y.getD j .non)) p.isList p'.isList (by simpa using hl) hu0 (fun j h1 h2 => eqAtL_of I x A.in1 y xs ys its its' l l' rv rv' (by show A.units + 1 + _ < cLine; unfold dep at hu; omega) j (by simpa using h1) (by simpa using h2))
          rw [← hl, Nat.min_self]
          simpa using e
        · have e := RcAt.lists_lengths (A := A) p.isList p'.isList (by simpa using hl) hu0
          have : (its.length == its'.length) = false := by simpa using hl
          rw [this, Bool.and_false]
          exact e
    | tup y => obtain ⟨b, ys, rfl, q', l'⟩ := Has.tup_iff.mp h'; cases r'; obtain ⟨its', _, p', _⟩ := I.tuple q'; exact EqAt.list_tuple p.isList p' hu0
theorem eqAtL_of (I : Inv X pins σ H s) : ∀ (ds : List D) (A : Around) (ds' : List D) (xs ys : List V) (us us' : List Value), HasL X.K H ds xs → HasL X.K H ds' ys → Vals xs us → Vals ys us' → A.units + depL ds < cLine →
    ∀ (j : Nat) (h1 : j < us.length) (h2 : j < us'.length), EqAt A s us[j] us'[j] (eqD (ds.getD j .non) (ds'.getD j .non))
  | [], A, ds', xs, ys, us, us', l, l', r, r', hu, j, h1, h2 => by
    rw [HasL.nil_iff] at l; subst l
    cases r
    simp at h1
  | d :: ds, A, ds', xs, ys, us, us', l, l', r, r', hu, j, h1, h2 => by
    obtain ⟨x, xr, rfl, hx, hr⟩ := HasL.cons_iff.mp l
    cases ds' with
    | nil =>
      rw [HasL.nil_iff] at l'; subst l'
      cases r'
      simp at h2
    | cons d' ds' =>
      obtain ⟨y, yr, rfl, hy, hyr⟩ := HasL.cons_iff.mp l'
      cases r with
      | cons r rr =>
        cases r' with
        | cons r' rr' =>
          unfold depL at hu
          cases j with
          | zero => exact eqAt_of I d A d' _ _ _ _ hx hy r r' (by have := Nat.le_max_left (dep d) (depL ds); omega)
          | succ j => exact eqAtL_of I ds A ds' _ _ _ _ hr hyr rr rr' (by have := Nat.le_max_right (dep d) (depL ds); omega) j (by simpa using h1) (by simpa using h2)
end
open SeqAt in
/-- == without the look whether both are one object -/
theorem rcAt_of (I : Inv X pins σ H s) (d : D) (A : Around) (d' : D) (v v' : V) (u u' : Value) (h : Has X.K H d v) (h' : Has X.K H d' v') (r : RelV v u) (r' : RelV v' u') (hu : A.units + dep d < cLine) : RcAt A s u u' (eqD d d') := by
  have hu0 : A.units < cLine := by omega
  cases d with
  | non =>
    rw [Has.non_iff] at h; subst h
    cases r
    cases d' with
    | non => rw [Has.non_iff] at h'; subst h'; cases r'; exact RcAt.none_none
    | bl b => rw [Has.bl_iff] at h'; subst h'; cases r'; exact RcAt.none_bool _
    | int b => rw [Has.int_iff] at h'; subst h'; obtain ⟨t, rfl⟩ := r'; exact RcAt.none_int _ _
    | str b => rw [Has.str_iff] at h'; subst h'; obtain ⟨t, rfl⟩ := r'; exact RcAt.none_str _ _
    | tup b => obtain ⟨a, xs, rfl, q, _⟩ := Has.tup_iff.mp h'; cases r'; obtain ⟨its, _, p, _⟩ := I.tuple q; exact RcAt.none_tuple p hu0
    | lst b => obtain ⟨a, xs, rfl, q, _⟩ := Has.lst_iff.mp h'; cases r'; obtain ⟨its, _, p, _⟩ := I.list q; exact RcAt.none_list p.isList hu0
  | bl x =>
    rw [Has.bl_iff] at h; subst h
    cases r
    cases d' with
    | non => rw [Has.non_iff] at h'; subst h'; cases r'; exact RcAt.bool_none _
    | bl b => rw [Has.bl_iff] at h'; subst h'; cases r'; exact RcAt.bool_bool _ _
    | int b => rw [Has.int_iff] at h'; subst h'; obtain ⟨t, rfl⟩ := r'; exact RcAt.bool_int _ _ _
    | str b => rw [Has.str_iff] at h'; subst h'; obtain ⟨t, rfl⟩ := r'; exact RcAt.bool_str _ _ _
    | tup b => obtain ⟨a, xs, rfl, q, _⟩ := Has.tup_iff.mp h'; cases r'; obtain ⟨its, _, p, _⟩ := I.tuple q; exact RcAt.bool_tuple _ p hu0
    | lst b => obtain ⟨a, xs, rfl, q, _⟩ := Has.lst_iff.mp h'; cases r'; obtain ⟨its, _, p, _⟩ := I.list q; exact RcAt.bool_list _ p.isList hu0
  | int x =>
    rw [Has.int_iff] at h; subst h
    obtain ⟨t, rfl⟩ := r
    cases d' with
    | non => rw [Has.non_iff] at h'; subst h'; cases r'; exact RcAt.int_none _ _
    | bl b => rw [Has.bl_iff] at h'; subst h'; cases r'; exact RcAt.int_bool _ _ _
    | int b => rw [Has.int_iff] at h'; subst h'; obtain ⟨t, rfl⟩ := r'; exact RcAt.int_int _ _ _ _
    | str b => rw [Has.str_iff] at h'; subst h'; obtain ⟨t, rfl⟩ := r'; exact RcAt.int_str _ _ _ _
    | tup b => obtain ⟨a, xs, rfl, q, _⟩ := Has.tup_iff.mp h'; cases r'; obtain ⟨its, _, p, _⟩ := I.tuple q; exact RcAt.int_tuple _ _ p hu0
    | lst b => obtain ⟨a, xs, rfl, q, _⟩ := Has.lst_iff.mp h'; cases r'; obtain ⟨its, _, p, _⟩ := I.list q; exact RcAt.int_list _ _ p.isList hu0
  | str x =>
    rw [Has.str_iff] at h; subst h
    obtain ⟨t, rfl⟩ := r
    cases d' with
    | non => rw [Has.non_iff] at h'; subst h'; cases r'; exact RcAt.str_none _ _
    | bl b => rw [Has.bl_iff] at h'; subst h'; cases r'; exact RcAt.str_bool _ _ _
    | int b => rw [Has.int_iff] at h'; subst h'; obtain ⟨t, rfl⟩ := r'; exact RcAt.str_int _ _ _ _
    | str b => rw [Has.str_iff] at h'; subst h'; obtain ⟨t, rfl⟩ := r'; exact RcAt.str_str _ _ _ _
    | tup b => obtain ⟨a, xs, rfl, q, _⟩ := Has.tup_iff.mp h'; cases r'; obtain ⟨its, _, p, _⟩ := I.tuple q; exact RcAt.str_tuple _ _ p hu0
    | lst b => obtain ⟨a, xs, rfl, q, _⟩ := Has.lst_iff.mp h'; cases r'; obtain ⟨its, _, p, _⟩ := I.list q; exact RcAt.str_list _ _ p.isList hu0
  | tup x =>
    obtain ⟨a, xs, rfl, q, l⟩ := Has.tup_iff.mp h
    cases r
    obtain ⟨its, rv, p, _⟩ := I.tuple q
    cases d' with
    | non => rw [Has.non_iff] at h'; subst h'; cases r'; exact RcAt.tuple_none p hu0
    | bl b => rw [Has.bl_iff] at h'; subst h'; cases r'; exact RcAt.tuple_bool _ p hu0
    | int b => rw [Has.int_iff] at h'; subst h'; obtain ⟨t, rfl⟩ := r'; exact RcAt.tuple_int _ _ p hu0
    | str b => rw [Has.str_iff] at h'; subst h'; obtain ⟨t, rfl⟩ := r'; exact RcAt.tuple_str _ _ p hu0
    | tup y =>
      obtain ⟨b, ys, rfl, q', l'⟩ := Has.tup_iff.mp h'
      cases r'
      obtain ⟨its', rv', p', _⟩ := I.tuple q'
      have e := RcAt.tuples (A := A) (e := fun j => eqD (x.getD j .non) (y.getD j .non)) p p' hu0 (fun j h1 h2 => eqAtL_of I x A.in1 y xs ys its its' l l' rv rv' (by show A.units + 1 + _ < cLine; unfold dep at hu; omega) j (by simpa using h1) (by simpa using h2))
      unfold eqD
      rw [eqDL_eq, ← l.length, ← l'.length, rv.length, rv'.length]
      simpa using e
    | lst y => obtain ⟨b, ys, rfl, q', l'⟩ := Has.lst_iff.mp h'; cases r'; obtain ⟨its', _, p', _⟩ := I.list q'; exact RcAt.tuple_list p p'.isList hu0
  | lst x =>
    obtain ⟨a, xs, rfl, q, l⟩ := Has.lst_iff.mp h
    cases r
    obtain ⟨its, rv, p, _⟩ := I.list q
    cases d' with
    | non => rw [Has.non_iff] at h'; subst h'; cases r'; exact RcAt.list_none p.isList hu0
    | bl b => rw [Has.bl_iff] at h'; subst h'; cases r'; exact RcAt.list_bool _ p.isList hu0
    | int b => rw [Has.int_iff] at h'; subst h'; obtain ⟨t, rfl⟩ := r'; exact RcAt.list_int _ _ p.isList hu0
    | str b => rw [Has.str_iff] at h'; subst h'; obtain ⟨t, rfl⟩ := r'; exact RcAt.list_str _ _ p.isList hu0
    | lst y =>
      obtain ⟨b, ys, rfl, q', l'⟩ := Has.lst_iff.mp h'
      cases r'
      obtain ⟨its', rv', p', _⟩ := I.list q'
      unfold eqD
      rw [eqDL_eq, ← l.length, ← l'.length, rv.length, rv'.length]
      by_cases hl : its.length = its'.length
      · have e := RcAt.lists (A := A) (e := fun j => eqD (x.getD j .non) (y.getD j .non)) p.isList p'.isList (by simpa using hl) hu0 (fun j h1 h2 => eqAtL_of I x A.in1 y xs ys its its' l l' rv rv' (by show A.units + 1 + _ < cLine; unfold dep at hu; omega) j (by simpa using h1) (by simpa using h2))
        rw [← hl, Nat.min_self]
        simpa using e
      · have e := RcAt.lists_lengths (A := A) p.isList p'.isList (by simpa using hl) hu0
        have : (its.length == its'.length) = false := by simpa using hl
        rw [this, Bool.and_false]
        exact e
    | tup y => obtain ⟨b, ys, rfl, q', l'⟩ := Has.tup_iff.mp h'; cases r'; obtain ⟨its', _, p', _⟩ := I.tuple q'; exact RcAt.list_tuple p.isList p' hu0
open SeqAt in
/-- != -/
theorem rcNe_of (I : Inv X pins σ H s) (d : D) (A : Around) (d' : D) (v v' : V) (u u' : Value) (h : Has X.K H d v) (h' : Has X.K H d' v') (r : RelV v u) (r' : RelV v' u') (hu : A.units + dep d < cLine) : RcNeAt A s u u' (!eqD d d') := by
  have hu0 : A.units < cLine := by omega
  cases d with
  | non =>
    rw [Has.non_iff] at h; subst h
    cases r
    cases d' with
    | non => rw [Has.non_iff] at h'; subst h'; cases r'; exact RcNeAt.none_none
    | bl b => rw [Has.bl_iff] at h'; subst h'; cases r'; exact RcNeAt.none_bool _
    | int b => rw [Has.int_iff] at h'; subst h'; obtain ⟨t, rfl⟩ := r'; exact RcNeAt.none_int _ _
    | str b => rw [Has.str_iff] at h'; subst h'; obtain ⟨t, rfl⟩ := r'; exact RcNeAt.none_str _ _
    | tup b => obtain ⟨a, xs, rfl, q, _⟩ := Has.tup_iff.mp h'; cases r'; obtain ⟨its, _, p, _⟩ := I.tuple q; exact RcNeAt.none_tuple p hu0
    | lst b => obtain ⟨a, xs, rfl, q, _⟩ := Has.lst_iff.mp h'; cases r'; obtain ⟨its, _, p, _⟩ := I.list q; exact RcNeAt.none_list p.isList hu0
  | bl x =>
    rw [Has.bl_iff] at h; subst h
    cases r
    cases d' with
    | non => rw [Has.non_iff] at h'; subst h'; cases r'; exact RcNeAt.bool_none _
    | bl b => rw [Has.bl_iff] at h'; subst h'; cases r'; exact RcNeAt.bool_bool _ _
    | int b => rw [Has.int_iff] at h'; subst h'; obtain ⟨t, rfl⟩ := r'; exact RcNeAt.bool_int _ _ _
    | str b => rw [Has.str_iff] at h'; subst h'; obtain ⟨t, rfl⟩ := r'; exact RcNeAt.bool_str _ _ _
    | tup b => obtain ⟨a, xs, rfl, q, _⟩ := Has.tup_iff.mp h'; cases r'; obtain ⟨its, _, p, _⟩ := I.tuple q; exact RcNeAt.bool_tuple _ p hu0
    | lst b => obtain ⟨a, xs, rfl, q, _⟩ := Has.lst_iff.mp h'; cases r'; obtain ⟨its, _, p, _⟩ := I.list q; exact RcNeAt.bool_list _ p.isList hu0
  | int x =>
    rw [Has.int_iff] at h; subst h
    obtain ⟨t, rfl⟩ := r
    cases d' with
    | non => rw [Has.non_iff] at h'; subst h'; cases r'; exact RcNeAt.int_none _ _
    | bl b => rw [Has.bl_iff] at h'; subst h'; cases r'; exact RcNeAt.int_bool _ _ _
    | int b => rw [Has.int_iff] at h'; subst h'; obtain ⟨t, rfl⟩ := r'; exact RcNeAt.int_int _ _ _ _
    | str b => rw [Has.str_iff] at h'; subst h'; obtain ⟨t, rfl⟩ := r'; exact RcNeAt.int_str _ _ _ _
    | tup b => obtain ⟨a, xs, rfl, q, _⟩ := Has.tup_iff.mp h'; cases r'; obtain ⟨its, _, p, _⟩ := I.tuple q; exact RcNeAt.int_tuple _ _ p hu0
    | lst b => obtain ⟨a, xs, rfl, q, _⟩ := Has.lst_iff.mp h'; cases r'; obtain ⟨its, _, p, _⟩ := I.list q; exact RcNeAt.int_list _ _ p.isList hu0
  | str x =>
    rw [Has.str_iff] at h; subst h
    obtain ⟨t, rfl⟩ := r
    cases d' with
    | non => rw [Has.non_iff] at h'; subst h'; cases r'; exact RcNeAt.str_none _ _
    | bl b => rw [Has.bl_iff] at h'; subst h'; cases r'; exact RcNeAt.str_bool _ _ _
    | int b => rw [Has.int_iff] at h'; subst h'; obtain ⟨t, rfl⟩ := r'; exact RcNeAt.str_int _ _ _ _
    | str b => rw [Has.str_iff] at h'; subst h'; obtain ⟨t, rfl⟩ := r'; exact RcNeAt.str_str _ _ _ _
    | tup b => obtain ⟨a, xs, rfl, q, _⟩ := Has.tup_iff.mp h'; cases r'; obtain ⟨its, _, p, _⟩ := I.tuple q; exact RcNeAt.str_tuple _ _ p hu0
    | lst b => obtain ⟨a, xs, rfl, q, _⟩ := Has.lst_iff.mp h'; cases r'; obtain ⟨its, _, p, _⟩ := I.list q; exact RcNeAt.str_list _ _ p.isList hu0
  | tup x =>
    obtain ⟨a, xs, rfl, q, l⟩ := Has.tup_iff.mp h
    cases r
    obtain ⟨its, rv, p, _⟩ := I.tuple q
    cases d' with
    | non => rw [Has.non_iff] at h'; subst h'; cases r'; exact RcNeAt.tuple_none p hu0
    | bl b => rw [Has.bl_iff] at h'; subst h'; cases r'; exact RcNeAt.tuple_bool _ p hu0
    | int b => rw [Has.int_iff] at h'; subst h'; obtain ⟨t, rfl⟩ := r'; exact RcNeAt.tuple_int _ _ p hu0
    | str b => rw [Has.str_iff] at h'; subst h'; obtain ⟨t, rfl⟩ := r'; exact RcNeAt.tuple_str _ _ p hu0
    | tup y =>
      obtain ⟨b, ys, rfl, q', l'⟩ := Has.tup_iff.mp h'
      cases r'
      obtain ⟨its', rv', p', _⟩ := I.tuple q'
      have e := RcNeAt.tuples (A := A) (e := fun j => eqD (x.getD j .non) (y.getD j .non)) p p' hu0 (fun j h1 h2 => eqAtL_of I x A.in1 y xs ys its its' l l' rv rv' (by show A.units + 1 + _ < cLine; unfold dep at hu; omega) j (by simpa using h1) (by simpa using h2))
      unfold eqD
      rw [eqDL_eq, ← l.length, ← l'.length, rv.length, rv'.length]
      simpa using e
    | lst y => obtain ⟨b, ys, rfl, q', l'⟩ := Has.lst_iff.mp h'; cases r'; obtain ⟨its', _, p', _⟩ := I.list q'; exact RcNeAt.tuple_list p p'.isList hu0
  | lst x =>
    obtain ⟨a, xs, rfl, q, l⟩ := Has.lst_iff.mp h
    cases r
    obtain ⟨its, rv, p, _⟩ := I.list q
    cases d' with
    | non => rw [Has.non_iff] at h'; subst h'; cases r'; exact RcNeAt.list_none p.isList hu0
    | bl b => rw [Has.bl_iff] at h'; subst h'; cases r'; exact RcNeAt.list_bool _ p.isList hu0
    | int b => rw [Has.int_iff] at h'; subst h'; obtain ⟨t, rfl⟩ := r'; exact RcNeAt.list_int _ _ p.isList hu0
    | str b => rw [Has.str_iff] at h'; subst h'; obtain ⟨t, rfl⟩ := r'; exact RcNeAt.list_str _ _ p.isList hu0
    | lst y =>
      obtain ⟨b, ys, rfl, q', l'⟩ := Has.lst_iff.mp h'
      cases r'
      obtain ⟨its', rv', p', _⟩ := I.list q'
      unfold eqD
      rw [eqDL_eq, ← l.length, ← l'.length, rv.length, rv'.length]
      by_cases hl : its.length = its'.length
      · have e := RcNeAt.lists (A := A) (e := fun j => eqD (x.getD j .non) (y.getD j .non)) p.isList p'.isList (by simpa using hl) hu0 (fun j h1 h2 => eqAtL_of I x A.in1 y xs ys its its' l l' rv rv' (by show A.units + 1 + _ < cLine; unfold dep at hu; omega) j (by simpa using h1) (by simpa using h2))
        rw [← hl, Nat.min_self]
        simpa using e
      · have e := RcNeAt.lists_lengths (A := A) p.isList p'.isList (by simpa using hl) hu0
        have : (its.length == its'.length) = false := by simpa using hl
        rw [this, Bool.and_false]
        exact e
    | tup y => obtain ⟨b, ys, rfl, q', l'⟩ := Has.tup_iff.mp h'; cases r'; obtain ⟨its', _, p', _⟩ := I.tuple q'; exact RcNeAt.list_tuple p.isList p' hu0
end
end FL
set_option Elab.async false
set_option linter.all false
set_option maxRecDepth 100000
set_option maxHeartbeats 4000000
namespace FL
open PySem PySem.Spec PyProof.Rows L2
theorem HasR.full {K : PySem.W.Frag} {H₀ Hf₀ H Hf : Hp} {σ : St} {ρ : Rho} {d : D} {v : V} (h : HasR K Hf σ ρ d v) (R : Rep K H₀ Hf₀ σ ρ H Hf) : Has K H d v := by
  rcases h with h | ⟨i, ds, rfl, e1, e2⟩
  · exact h.mono R.sf
  · obtain ⟨a, p1, ⟨xs, p2, p3⟩, _⟩ := R.ow i _ e1 rfl
    rw [e2] at p1; cases p1
    exact Has.lst_iff.mpr ⟨a, xs, rfl, SqL.of p2, p3.mono R.sf⟩
section
variable {X : Cx} {e a b c : Expr} {es : List Expr} {f g h : FE} {fa ga : FA} {ft gt : FT} {pos : Pos} {t t' : TE} {kk : Nat}
def rEqD (K : PySem.W.Frag) : R2 := fun x y H Q => ∃ d d', Has K H d x ∧ Has K H d' y ∧ dep d ≤ 100 ∧ Q (.bl (eqD d d')) H
def rNeD (K : PySem.W.Frag) : R2 := fun x y H Q => ∃ d d', Has K H d x ∧ Has K H d' y ∧ dep d ≤ 100 ∧ Q (.bl (!eqD d d')) H
theorem op_eqD (hr : Room kk X.A) : OpR X (compareOp .Eq) (rEqD X.K) := by
  intro pins s σ H x y v u Q I rx ry h
  obtain ⟨d, d', h1, h2, h3, q⟩ := h
  exact rcAt_of I d X.A d' x y v u h1 h2 rx ry (by have := hr.un; omega) X.prog X.w X.xe _ ⟨.bl _, H, I, rfl, q⟩
theorem op_neD (hr : Room kk X.A) : OpR X (compareOp .NotEq) (rNeD X.K) := by
  intro pins s σ H x y v u Q I rx ry h
  obtain ⟨d, d', h1, h2, h3, q⟩ := h
  exact rcNe_of I d X.A d' x y v u h1 h2 rx ry (by have := hr.un; omega) X.prog X.w X.xe _ ⟨.bl _, H, I, rfl, q⟩
def eqF : D → D → Option D := fun x y => if dep x ≤ 100 then some (.bl (eqD x y)) else none
def neF : D → D → Option D := fun x y => if dep x ≤ 100 then some (.bl (!eqD x y)) else none
theorem opD_eq : OpD X (rEqD X.K) eqF := by
  intro σ ρ H₀ Hf₀ H Hf x y dx dy d Q R hx hy hφ k
  unfold eqF at hφ
  split at hφ
  · cases hφ
    exact ⟨dx, dy, hx.full R, hy.full R, by assumption, k _ _ _ R sameR sameR (Has.bl_iff.mpr rfl)⟩
  · cases hφ
theorem opD_ne : OpD X (rNeD X.K) neF := by
  intro σ ρ H₀ Hf₀ H Hf x y dx dy d Q R hx hy hφ k
  unfold neF at hφ
  split at hφ
  · cases hφ
    exact ⟨dx, dy, hx.full R, hy.full R, by assumption, k _ _ _ R sameR sameR (Has.bl_iff.mpr rfl)⟩
  · cases hφ
theorem d_eq (hr : Room kk X.A) (ha : DR X a f) (hb : DR X b g) : DE X (.Compare a [.Eq] [b] pos) (bind2 eqF f g) := d_cmp (op_eqD hr) opD_eq ha hb (nomark _)
theorem dt_eq (hr : Room kk X.A) (ha : DR X a f) (hb : DR X b g) : DT X (.Compare a [.Eq] [b] pos) (blF (bind2 eqF f g)) := pt_of_cmp (op_eqD hr) opD_eq ha hb (nomark _)
theorem dt_ne (hr : Room kk X.A) (ha : DR X a f) (hb : DR X b g) : DT X (.Compare a [.NotEq] [b] pos) (blF (bind2 neF f g)) := pt_of_cmp (op_neD hr) opD_ne ha hb (nomark _)
def FnR (X : Cx) (r : List V → Hp → VK → Prop) (φ : List D → Option D) : Prop :=
  ∀ (σ : St) (ρ : Rho) (H₀ Hf₀ H Hf : Hp) (xs : List V) (ds : List D) (d : D) (Q : VK), Rep X.K H₀ Hf₀ σ ρ H Hf → HasRL X.K Hf σ ρ ds xs → φ ds = some d →
    (∀ v H' Hf', Rep X.K H₀ Hf₀ σ ρ H' Hf' → Same H H' → Same Hf Hf' → Has X.K Hf' d v → Q v H') → r xs H Q
def appF (φ : List D → Option D) (fa : FA) : FE := fun ρ => (fa ρ).bind φ
theorem bindA_some {α : Type} {f : FA} {k : List D → Option α} {ρ : Rho} {r : α} (h : (f ρ).bind k = some r) : ∃ b, f ρ = some b ∧ k b = some r := by
  cases hf : f ρ with
  | none => rw [hf] at h; cases h
  | some x => rw [hf] at h; exact ⟨x, rfl, h⟩
theorem tCB_of {r : List V → Hp → VK → Prop} {φ : List D → Option D} (hφ : FnR X r φ) (σ : St) (H : Hp) (Q : VK) (hh : tF X.K (appF φ fa) σ H Q) : tCB r (tAR X.K fa) σ H Q := by
  obtain ⟨H₀, Hf₀, ρ, Hf, d, R, q, k⟩ := hh
  obtain ⟨ds, e1, e2⟩ := bindA_some q
  exact ⟨H₀, Hf₀, ρ, Hf, ds, R, e1, fun vs H1 Hf1 R1 s1 t1 h1 => hφ σ ρ H₀ Hf₀ H1 Hf1 vs ds d Q R1 h1 e2 fun v H2 Hf2 R2 s2 t2 h2 => k _ _ _ R2 (s1.trans s2) (t1.trans t2) h2⟩
theorem d_callB {id : String} {x : Str} {p : Pos} {r : List V → Hp → VK → Prop} {φ : List D → Option D} (hc : CallR X (.builtin id) r) (hφ : FnR X r φ) (hg : Gl X x) (hm : X.mg x = none) (hv : bootBuiltins x = some (.builtin id)) (ha : DAR X (e :: es) fa)
    (hn : x ≠ "__name__" := by decide) (hdb : (x == ("__debug__" : Str)) = false := by decide)
    (he : starEach (e :: es) X.env = (false, eval e X.env) :: starEach es X.env := by rfl) (hpl : (backTo pos (starEach es X.env)).any (·.1) = false := by rfl) : DE X (.Call (.Name x p) (e :: es) [] pos) (appF φ fa) :=
  pe_imp (pe_callB hc hg hm hv ha hn hdb he hpl) (tCB_of hφ)
theorem d_callTy {T : String} {x : Str} {p : Pos} {r : List V → Hp → VK → Prop} {φ : List D → Option D} (hc : CallR X (.type T) r) (hφ : FnR X r φ) (hg : Gl X x) (hm : X.mg x = none) (hv : bootBuiltins x = some (.type T)) (ha : DAR X (e :: es) fa)
    (hn : x ≠ "__name__" := by decide) (hdb : (x == ("__debug__" : Str)) = false := by decide)
    (he : starEach (e :: es) X.env = (false, eval e X.env) :: starEach es X.env := by rfl) (hpl : (backTo pos (starEach es X.env)).any (·.1) = false := by rfl) : DE X (.Call (.Name x p) (e :: es) [] pos) (appF φ fa) :=
  pe_imp (pe_callTy hc hg hm hv ha hn hdb he hpl) (tCB_of hφ)
theorem HasRL.one {K : PySem.W.Frag} {Hf : Hp} {σ : St} {ρ : Rho} {d : D} {xs : List V} (h : HasRL K Hf σ ρ [d] xs) : ∃ v, xs = [v] ∧ HasR K Hf σ ρ d v := by
  cases h with
  | cons h1 h2 => cases h2; exact ⟨_, rfl, h1⟩
theorem HasRL.two {K : PySem.W.Frag} {Hf : Hp} {σ : St} {ρ : Rho} {d d' : D} {xs : List V} (h : HasRL K Hf σ ρ [d, d'] xs) : ∃ v v', xs = [v, v'] ∧ HasR K Hf σ ρ d v ∧ HasR K Hf σ ρ d' v' := by
  cases h with
  | cons h1 h2 =>
    cases h2 with
    | cons h2 h3 => cases h3; exact ⟨_, _, rfl, h1, h2⟩
def lenD : List D → Option D
  | [.lst ds] => some (.int ds.length)
  | [.tup ds] => some (.int ds.length)
  | [.str x] => if x.length ≤ sizeLine then some (.int x.length) else none
  | _ => none
theorem call_lenG : CallR X (.builtin "len") (fun xs H Q => (∃ p ys, xs = [.ref p] ∧ (SqL X.K H p ys ∨ SqT X.K H p ys) ∧ Q (.int ys.length) H) ∨ (∃ z, xs = [.str z] ∧ z.length ≤ sizeLine ∧ Q (.int z.length) H)) := CallR.or call_len_seq call_len_str
theorem fnR_len : FnR X (fun xs H Q => (∃ p ys, xs = [.ref p] ∧ (SqL X.K H p ys ∨ SqT X.K H p ys) ∧ Q (.int ys.length) H) ∨ (∃ z, xs = [.str z] ∧ z.length ≤ sizeLine ∧ Q (.int z.length) H)) lenD := by
  intro σ ρ H₀ Hf₀ H Hf xs ds d Q R hx hφ k
  unfold lenD at hφ
  split at hφ
  · cases hφ
    obtain ⟨v, rfl, hv⟩ := hx.one
    obtain ⟨a, ys, rfl, q, l⟩ := hv.lst R
    exact .inl ⟨a, ys, rfl, .inl q, k _ _ _ R sameR sameR (by rw [← l.length]; exact Has.int_iff.mpr rfl)⟩
  · cases hφ
    obtain ⟨v, rfl, hv⟩ := hx.one
    obtain ⟨a, ys, rfl, q, l⟩ := hv.tup R
    exact .inl ⟨a, ys, rfl, .inr q, k _ _ _ R sameR sameR (by rw [← l.length]; exact Has.int_iff.mpr rfl)⟩
  · split at hφ
    · cases hφ
      obtain ⟨v, rfl, hv⟩ := hx.one
      exact .inr ⟨_, by rw [hv.str], by assumption, k _ _ _ R sameR sameR (Has.int_iff.mpr rfl)⟩
    · cases hφ
  · cases hφ
def absD : List D → Option D
  | [.int i] => some (.int (if i < 0 then -i else i))
  | _ => none
def maxD : List D → Option D
  | [.int i, .int j] => some (.int (if j > i then j else i))
  | _ => none
def minD : List D → Option D
  | [.int i, .int j] => some (.int (if j < i then j else i))
  | _ => none
theorem fnR_max : FnR X (fun xs H Q => ∃ i j, xs = [.int i, .int j] ∧ Q (.int (if j > i then j else i)) H) maxD := by
  intro σ ρ H₀ Hf₀ H Hf xs ds d Q R hx hφ k
  unfold maxD at hφ
  split at hφ
  · cases hφ
    obtain ⟨v, v', rfl, hv, hv'⟩ := hx.two
    exact ⟨_, _, by rw [hv.int, hv'.int], k _ _ _ R sameR sameR (Has.int_iff.mpr rfl)⟩
  · cases hφ
theorem fnR_min : FnR X (fun xs H Q => ∃ i j, xs = [.int i, .int j] ∧ Q (.int (if j < i then j else i)) H) minD := by
  intro σ ρ H₀ Hf₀ H Hf xs ds d Q R hx hφ k
  unfold minD at hφ
  split at hφ
  · cases hφ
    obtain ⟨v, v', rfl, hv, hv'⟩ := hx.two
    exact ⟨_, _, by rw [hv.int, hv'.int], k _ _ _ R sameR sameR (Has.int_iff.mpr rfl)⟩
  · cases hφ
def strD : List D → Option D
  | [.int i] => if i.natAbs.log2 < 1920 then some (.str (toString i)) else none
  | _ => none
theorem fnR_str : FnR X (fun xs H Q => ∃ i, xs = [.int i] ∧ i.natAbs.log2 < 1920 ∧ Q (.str (toString i)) H) strD := by
  intro σ ρ H₀ Hf₀ H Hf xs ds d Q R hx hφ k
  unfold strD at hφ
  split at hφ
  · split at hφ
    · cases hφ
      obtain ⟨v, rfl, hv⟩ := hx.one
      exact ⟨_, by rw [hv.int], by assumption, k _ _ _ R sameR sameR (Has.str_iff.mpr rfl)⟩
    · cases hφ
  · cases hφ
def seqF (F G : FS) : FS := fun ρ => (F ρ).bind fun o => match o with
  | .nx ρ' => G ρ'
  | o => some o
def nxF : FS := fun ρ => some (.nx ρ)
variable {st : Stmt} {sts rest : List Stmt} {F G : FS}
theorem bindO_some {α : Type} {F : FS} {k : Out → Option α} {ρ : Rho} {r : α} (h : (F ρ).bind k = some r) : ∃ b, F ρ = some b ∧ k b = some r := by
  cases hf : F ρ with
  | none => rw [hf] at h; cases h
  | some x => rw [hf] at h; exact ⟨x, rfl, h⟩
theorem dss_nil : DSs X [] nxF := pss_imp pss_nil fun D' σ H ⟨H₀, Hf₀, ρ, Hf, o, R, q, k⟩ => by cases q; exact k _ _ _ R sameR
theorem dss_cons (h1 : DS X st F) (h2 : DSs X rest G) : DSs X (st :: rest) (seqF F G) := pss_imp (pss_cons h1 h2) fun D' σ H ⟨H₀, Hf₀, ρ, Hf, o, R, q, k⟩ => by
  obtain ⟨o1, e1, e2⟩ := bindO_some q
  refine ⟨H₀, Hf₀, ρ, Hf, o1, R, e1, ?_⟩
  cases o1 with
  | nx ρ' =>
    intro σ' H' Hf' R' s'
    refine ⟨H₀, Hf₀, ρ', Hf', o, R', e2, ?_⟩
    cases o with
    | nx _ => exact fun σ2 H2 Hf2 R2 s2 => k _ _ _ R2 (s'.trans s2)
    | bk _ => exact fun σ2 H2 Hf2 R2 s2 => k _ _ _ R2 (s'.trans s2)
    | ct _ => exact fun σ2 H2 Hf2 R2 s2 => k _ _ _ R2 (s'.trans s2)
    | rt _ => exact fun v σ2 ρ2 H2 Hf2 R2 s2 h2 => k _ _ _ _ _ R2 (s'.trans s2) h2
  | bk _ => cases e2; exact k
  | ct _ => cases e2; exact k
  | rt _ => cases e2; exact k
theorem dss_one (h1 : DS X st F) : DSs X [st] F := pss_one h1
def neverF : FS := fun _ => none
theorem ds_never : DS X st neverF := ps_imp ps_never fun D' σ H ⟨H₀, Hf₀, ρ, Hf, o, R, q, k⟩ => by cases q
def retF (f : FE) : FS := fun ρ => (f ρ).bind fun d => some (.rt d)
theorem ds_ret (he : DE X e f) : DS X (.Return (some e) pos) (retF f) := ps_imp (ps_ret he) fun D' σ H ⟨H₀, Hf₀, ρ, Hf, o, R, q, k⟩ => by
  obtain ⟨d, e1, e2⟩ := bindV_some q
  cases e2
  exact ⟨H₀, Hf₀, ρ, Hf, d, R, e1, fun v H1 Hf1 R1 s1 t1 h1 => k v σ ρ H1 Hf1 R1 t1 h1⟩
def dropF (f : FE) : FS := fun ρ => (f ρ).bind fun _ => some (.nx ρ)
theorem ds_expr (he : DE X e f) (hs : swapsWith e none pos.line X.env = pure false := by rfl) : DS X (.Expr e pos) (dropF f) := ps_imp (ps_expr he hs) fun D' σ H ⟨H₀, Hf₀, ρ, Hf, o, R, q, k⟩ => by
  obtain ⟨d, e1, e2⟩ := bindV_some q
  cases e2
  exact ⟨H₀, Hf₀, ρ, Hf, d, R, e1, fun v H1 Hf1 R1 s1 t1 h1 => k _ _ _ R1 t1⟩
def ifS (c : FT) (F G : FS) : FS := fun ρ => (c ρ).bind fun b => if b = true then F ρ else G ρ
theorem EndO.mono {K : PySem.W.Frag} {H₀ Hf₀ Hf Hf1 : Hp} {D' : Ends} {o : Out} (k : EndO K H₀ Hf₀ Hf D' o) (t : Same Hf Hf1) : EndO K H₀ Hf₀ Hf1 D' o := by
  cases o with
  | nx _ => exact fun σ2 H2 Hf2 R2 s2 => k _ _ _ R2 (t.trans s2)
  | bk _ => exact fun σ2 H2 Hf2 R2 s2 => k _ _ _ R2 (t.trans s2)
  | ct _ => exact fun σ2 H2 Hf2 R2 s2 => k _ _ _ R2 (t.trans s2)
  | rt _ => exact fun v σ2 ρ2 H2 Hf2 R2 s2 h2 => k _ _ _ _ _ R2 (t.trans s2) h2
theorem ds_if {a b : List Stmt} (hc : DT X c ft) (ha : DSs X a F) (hb : DSs X b G) : DS X (.If c a b pos) (ifS ft F G) := ps_imp (ps_if hc ha hb) fun D' σ H ⟨H₀, Hf₀, ρ, Hf, o, R, q, k⟩ => by
  obtain ⟨x, e1, e2⟩ := bindT_some q
  refine ⟨H₀, Hf₀, ρ, Hf, x, R, e1, fun H1 Hf1 R1 s1 t1 => ?_⟩
  cases x with
  | true => exact iteT ⟨H₀, Hf₀, ρ, Hf1, o, R1, e2, k.mono t1⟩
  | false => exact iteF ⟨H₀, Hf₀, ρ, Hf1, o, R1, e2, k.mono t1⟩
def asgF (i : Nat) (f : FE) : FS := fun ρ => (f ρ).bind fun d => some (.nx (ρ.set i (.fr d)))
theorem ds_asg {x : Str} {pos' : Pos} (i : Nat) (hN : X.N.Nodup) (he : DE X e f) (hi : X.N[i]? = some x := by rfl) (hx : Loc X.env.scope x := by first | exact Or.inl rfl | exact Or.inr rfl) (hs : swapsWith e (some (.Name x pos')) pos.line X.env = pure false := by rfl)
    (hf : X.fn x = true ∨ X.env.scope.names.lookup x = some .local := by first | exact .inl rfl | exact .inr rfl | assumption) : DS X (.Assign [.Name x pos'] e pos) (asgF i f) :=
  ps_imp (ps_set hN hi hx he hs hf) fun D' σ H ⟨H₀, Hf₀, ρ, Hf, o, R, q, k⟩ => by
    obtain ⟨d, e1, e2⟩ := bindV_some q
    cases e2
    exact ⟨H₀, Hf₀, ρ, Hf, d, R, e1, fun v H1 Hf1 R1 s1 t1 h1 => k _ _ _ (R1.set i h1) t1⟩
def asgN (i : Nat) (f : FA) : FS := fun ρ => (f ρ).bind fun ds => some (.nx (ρ.set i (.ol ds)))
theorem ds_asgN {x : Str} {pos' : Pos} (i : Nat) (hN : X.N.Nodup) (he : DN X e fa) (hi : X.N[i]? = some x := by rfl) (hx : Loc X.env.scope x := by first | exact Or.inl rfl | exact Or.inr rfl) (hs : swapsWith e (some (.Name x pos')) pos.line X.env = pure false := by rfl)
    (hf : X.fn x = true ∨ X.env.scope.names.lookup x = some .local := by first | exact .inl rfl | exact .inr rfl | assumption) : DS X (.Assign [.Name x pos'] e pos) (asgN i fa) :=
  ps_imp (ps_set hN hi hx he hs hf) fun D' σ H ⟨H₀, Hf₀, ρ, Hf, o, R, q, k⟩ => by
    obtain ⟨d, e1, e2⟩ := bindA_some q
    cases e2
    refine ⟨H₀, Hf₀, ρ, Hf, d, R, e1, fun a xs H1 Hf1 R1 s1 t1 h1 ha hn hh => k _ _ _ (R1.setOwn i rfl ⟨xs, ha, h1⟩ hn (R.s0.free hh) ?_) t1⟩
    intro j sl z o z'
    obtain ⟨b, p1, p2, _⟩ := R.ow j sl z o
    rw [p1] at z'; cases z'
    obtain ⟨ob, q'⟩ := p2.there o
    rw [q'] at hh; cases hh
def frz (i : Nat) (ρ : Rho) : Option Rho := match ρ[i]? with
  | some (.ol ds) => some (ρ.set i (.fr (.lst ds)))
  | some (.fr _) => some ρ
  | _ => none
def frzF (i : Nat) (F : FS) : FS := fun ρ => (frz i ρ).bind F
theorem dss_frz (i : Nat) (h : DSs X sts F) : DSs X sts (frzF i F) := pss_imp h fun D' σ H ⟨H₀, Hf₀, ρ, Hf, o, R, q, k⟩ => by
  unfold frzF frz at q
  split at q
  · rename_i ds e
    obtain ⟨Hf', sm, R'⟩ := R.freeze e
    exact ⟨H₀, Hf₀, _, Hf', o, R', q, k.mono sm⟩
  · exact ⟨H₀, Hf₀, _, Hf, o, R, q, k⟩
  · cases q
abbrev FG := D → Rho → Option Rho
def tG (K : PySem.W.Frag) (γ : FG) : TG := fun v σ H Q => ∃ H₀ Hf₀ ρ Hf d ρ', Rep K H₀ Hf₀ σ ρ H Hf ∧ Has K Hf d v ∧ γ d ρ = some ρ' ∧ ∀ σ' H' Hf', Rep K H₀ Hf₀ σ' ρ' H' Hf' → Same Hf Hf' → Q σ' H'
abbrev FGs := List D → Rho → Option Rho
def tGs (K : PySem.W.Frag) (γ : FGs) : TGs := fun vs σ H Q => ∃ H₀ Hf₀ ρ Hf ds ρ', Rep K H₀ Hf₀ σ ρ H Hf ∧ HasL K Hf ds vs ∧ γ ds ρ = some ρ' ∧ ∀ σ' H' Hf', Rep K H₀ Hf₀ σ' ρ' H' Hf' → Same Hf Hf' → Q σ' H'
def DG (X : Cx) (tg : Expr) (γ : FG) : Prop := PG X tg (tG X.K γ)
def DGs (X : Cx) (ts : List Expr) (γ : FGs) : Prop := PGs X ts (tGs X.K γ)
theorem pg_imp {tg : Expr} {t t' : TG} (h : PG X tg t) (i : ∀ v σ H Q, t' v σ H Q → t v σ H Q) : PG X tg t' := fun pins s σ H v u Q I r hw => h pins s σ H v u Q I r (i _ _ _ _ hw)
theorem pgs_imp {ts : List Expr} {t t' : TGs} (h : PGs X ts t) (i : ∀ v σ H Q, t' v σ H Q → t v σ H Q) : PGs X ts t' := fun pins s σ H v u Q I r hw => h pins s σ H v u Q I r (i _ _ _ _ hw)
def nameG (i : Nat) : FG := fun d ρ => some (ρ.set i (.fr d))
theorem dg_name {x : Str} (i : Nat) (hN : X.N.Nodup) (hi : X.N[i]? = some x := by rfl) (hx : Loc X.env.scope x := by first | exact Or.inl rfl | exact Or.inr rfl) (hf : X.fn x = true ∨ X.env.scope.names.lookup x = some .local := by first | exact .inl rfl | exact .inr rfl | assumption) : DG X (.Name x pos) (nameG i) :=
  pg_imp (pg_name hN hi hx hf) fun v σ H Q ⟨H₀, Hf₀, ρ, Hf, d, ρ', R, h, q, k⟩ => by
    cases q
    exact k _ _ _ (R.set i h) sameR
def nilG : FGs := fun ds ρ => match ds with
  | [] => some ρ
  | _ => none
def consG (γ : FG) (δ : FGs) : FGs := fun ds ρ => match ds with
  | d :: r => (γ d ρ).bind fun ρ' => δ r ρ'
  | _ => none
theorem dgs_nil : DGs X [] nilG := pgs_imp pgs_nil fun v σ H Q ⟨H₀, Hf₀, ρ, Hf, ds, ρ', R, h, q, k⟩ => by
  cases ds with
  | nil => cases q; exact ⟨HasL.nil_iff.mp h, k _ _ _ R sameR⟩
  | cons _ _ => cases q
theorem dgs_cons {γ : FG} {δ : FGs} (h1 : DG X e γ) (h2 : DGs X es δ) (hs : (assignEach (e :: es) X.env).map (·.2) = assign e X.env :: (assignEach es X.env).map (·.2) := by rfl) : DGs X (e :: es) (consG γ δ) :=
  pgs_imp (pgs_cons h1 h2 hs) fun v σ H Q ⟨H₀, Hf₀, ρ, Hf, ds, ρ', R, h, q, k⟩ => by
    cases ds with
    | nil => cases q
    | cons d r =>
      obtain ⟨x, xr, rfl, hx, hr⟩ := HasL.cons_iff.mp h
      have q : (γ d ρ).bind (fun ρ' => δ r ρ') = some ρ' := q
      cases e1 : γ d ρ with
      | none => rw [e1] at q; cases q
      | some ρ1 =>
        rw [e1] at q
        exact ⟨x, xr, rfl, H₀, Hf₀, ρ, Hf, d, ρ1, R, hx, e1, fun σ1 H1 Hf1 R1 s1 => ⟨H₀, Hf₀, ρ1, Hf1, r, ρ', R1, hr.mono s1, q, fun σ2 H2 Hf2 R2 s2 => k _ _ _ R2 (s1.trans s2)⟩⟩
def tupG (n : Nat) (δ : FGs) : FG := fun d ρ => match d with
  | .tup ds => if ds.length = n then δ ds ρ else none
  | _ => none
theorem dg_tup {kx n : Nat} {δ : FGs} (hc : X.calm = true) (h : DGs X es δ) (hn : (assignEach es X.env).length = n := by rfl) (hst : (assignEach es X.env).findIdx? (·.1) = none := by rfl) : DG X (.Tuple es kx pos) (tupG n δ) :=
  pg_imp (pg_tup hc h hn hst) fun v σ H Q ⟨H₀, Hf₀, ρ, Hf, d, ρ', R, h, q, k⟩ => by
    unfold tupG at q
    split at q
    · split at q
      · rename_i ds hl
        obtain ⟨a, xs, rfl, qa, la⟩ := Has.tup_iff.mp h
        exact ⟨a, xs, rfl, sameT R.sf qa, by rw [la.length]; exact hl, H₀, Hf₀, ρ, Hf, ds, ρ', R, la, q, k⟩
      · cases q
    · cases q
end
end FL
set_option Elab.async false
set_option linter.all false
set_option maxRecDepth 100000
set_option maxHeartbeats 4000000
namespace FL
open PySem PySem.Spec PyProof.Rows L2
def loopF (γ : FG) (B : FS) : List D → Rho → Option Out
  | [], ρ => some (.nx ρ)
  | d :: ds, ρ => (γ d ρ).bind fun ρ1 => (B ρ1).bind fun o => match o with
    | .nx ρ2 => loopF γ B ds ρ2
    | .ct ρ2 => loopF γ B ds ρ2
    | .bk ρ2 => some (.nx ρ2)
    | .rt d => some (.rt d)
def forF (fi : FA) (γ : FG) (B : FS) : FS := fun ρ => (fi ρ).bind fun ds => loopF γ B ds ρ
structure Grows (H Hf H' Hf' : Hp) : Prop where
  h : Same H H'
  f : Same Hf Hf'
  fh : Same Hf' H'
  new : ∀ b o, Hf' b = some o → Hf b = some o ∨ H b = none ∨ Tp o
theorem Rep.grows {K : PySem.W.Frag} {H₀ Hf₀ : Hp} {σ : St} {ρ : Rho} {H Hf H' Hf' : Hp} (R : Rep K H₀ Hf₀ σ ρ H Hf) (g : Grows H Hf H' Hf') : Rep K H₀ Hf₀ σ ρ H' Hf' := R.grow g.h g.f g.fh g.new
theorem Grows.refl {H Hf : Hp} (h : Same Hf H) : Grows H Hf H Hf := ⟨sameR, sameR, h, fun _ _ e => .inl e⟩
def Walks (K : PySem.W.Frag) (Hf : Hp) (J : It) (ds : List D) : Prop :=
  ∀ (H' Hf' : Hp), Same Hf Hf' → Same Hf' H' → ∀ i : Nat, (∀ d, ds[i]? = some d → J.go i H' ∧ ∀ x H2, J.yld i H' x H2 → ∃ Hf2, Grows H' Hf' H2 Hf2 ∧ Has K Hf2 d x) ∧ (ds.length ≤ i → J.stop i H')
def tI (K : PySem.W.Frag) (fi : FA) : TI := fun σ H R' => ∃ H₀ Hf₀ ρ Hf ds, Rep K H₀ Hf₀ σ ρ H Hf ∧ fi ρ = some ds ∧ ∀ J H' Hf', Rep K H₀ Hf₀ σ ρ H' Hf' → Same H H' → Same Hf Hf' → Walks K Hf' J ds → R' J H'
def DI (X : Cx) (tg iter : Expr) (fi : FA) : Prop := PI X tg iter (tI X.K fi)
section
variable {X : Cx} {e a b c tg iter : Expr} {es : List Expr} {f g h : FE} {fa ga fi : FA} {ft gt : FT} {pos : Pos} {t t' : TE} {kk : Nat} {st : Stmt} {sts rest body : List Stmt} {F G B : FS} {γ : FG}
theorem pi_imp {t t' : TI} (h : PI X tg iter t) (i : ∀ σ H R, t' σ H R → t σ H R) : PI X tg iter t' := fun pins s σ H R I hw => h pins s σ H R I (i _ _ _ hw)
theorem ds_for (hp : PassesOwn (model X.prog X.w) X.A X.env X.xe) (hc : X.calm = true) (hi : DI X tg iter fi) (hg : DG X tg γ) (hb : DSs X body B)
    (hs : ∀ x, foldedSetIterable iter X.env x = pure x := by intro _; rfl) : DS X (.For tg iter body [] pos) (forF fi γ B) :=
  ps_imp (ps_for hp hc hi hg hb hs) fun D' σ H ⟨H₀, Hf₀, ρ, Hf, o, R, q, k⟩ => by
    obtain ⟨ds, e1, e2⟩ := bindA_some q
    refine ⟨H₀, Hf₀, ρ, Hf, ds, R, e1, fun J H1 Hf1 R1 _ t1 wk => ?_⟩
    have k1 := k.mono t1
    refine ⟨fun i m σ H => m = ds.length - i ∧ i ≤ ds.length ∧ ∃ ρ Hf', Rep X.K H₀ Hf₀ σ ρ H Hf' ∧ Same Hf1 Hf' ∧ loopF γ B (ds.drop i) ρ = some o, ⟨ds.length, by simp, Nat.zero_le _, ρ, Hf1, R1, sameR, by simpa using e2⟩, ?_⟩
    rintro i m σ2 H2 ⟨rfl, hi, ρ2, Hf2, R2, t2, el⟩
    obtain ⟨w1, w2⟩ := wk H2 Hf2 t2 R2.sf i
    by_cases hil : i < ds.length
    · right
      have hd : ds[i]? = some ds[i] := List.getElem?_eq_getElem hil
      obtain ⟨go, yld⟩ := w1 _ hd
      refine ⟨go, ?_⟩
      rw [List.drop_eq_getElem_cons hil] at el
      unfold loopF at el
      cases eg : γ ds[i] ρ2 with
      | none => rw [eg] at el; cases el
      | some ρ3 =>
        rw [eg] at el
        simp only [Option.bind_some] at el
        obtain ⟨o1, eb, eo⟩ := bindO_some el
        refine ⟨fun σ' H' => ∃ ρ' Hf', Rep X.K H₀ Hf₀ σ' ρ' H' Hf' ∧ Same Hf1 Hf' ∧ loopF γ B (ds.drop (i + 1)) ρ' = some o, ?_, ?_⟩
        · rintro σ' H' ⟨ρ', Hf', R', t', e'⟩
          exact ⟨ds.length - (i + 1), by omega, rfl, hil, ρ', Hf', R', t', e'⟩
        · intro x H3 hy
          obtain ⟨Hf3, gr, hx⟩ := yld x H3 hy
          refine ⟨H₀, Hf₀, ρ2, Hf3, ds[i], ρ3, R2.grows gr, hx, eg, fun σ4 H4 Hf4 R4 t4 => ?_⟩
          refine ⟨H₀, Hf₀, ρ3, Hf4, o1, R4, eb, ?_⟩
          have tt : Same Hf1 Hf4 := (t2.trans gr.f).trans t4
          cases o1 with
          | nx ρ5 => exact fun σ5 H5 Hf5 R5 t5 => ⟨ρ5, Hf5, R5, tt.trans t5, eo⟩
          | ct ρ5 => exact fun σ5 H5 Hf5 R5 t5 => ⟨ρ5, Hf5, R5, tt.trans t5, eo⟩
          | bk ρ5 => cases eo; exact fun σ5 H5 Hf5 R5 t5 => k1 _ _ _ R5 (tt.trans t5)
          | rt d => cases eo; exact fun v σ5 ρ5 H5 Hf5 R5 t5 h5 => k1 _ _ _ _ _ R5 (tt.trans t5) h5
    · left
      have : ds.drop i = [] := List.drop_eq_nil_of_le (by omega)
      rw [this] at el
      cases el
      exact ⟨w2 (by omega), k1 _ _ _ R2 t2⟩
def rangeD (lo hi : Int) : List D := (List.range (hi - lo).toNat).map fun (k : Nat) => D.int (lo + (k : Int))
noncomputable def rangeA : List D → Option (List D)
  | [.int j] => @ite _ (-(2 ^ 62) ≤ j ∧ j < 2 ^ 62) (Classical.propDecidable _) (some (rangeD 0 j)) none
  | _ => none
noncomputable def rangeB : List D → Option (List D)
  | [.int i, .int j] => @ite _ (-(2 ^ 62) ≤ i ∧ i < 2 ^ 62 ∧ -(2 ^ 62) ≤ j ∧ j < 2 ^ 62) (Classical.propDecidable _) (some (rangeD i j)) none
  | _ => none
noncomputable def rng1 (fa : FA) : FA := fun ρ => (fa ρ).bind rangeA
noncomputable def rng2 (fa : FA) : FA := fun ρ => (fa ρ).bind rangeB
theorem walks_range {K : PySem.W.Frag} {Hf : Hp} {lo : Int} {n : Nat} : Walks K Hf (Itr lo n) ((List.range n).map fun (k : Nat) => D.int (lo + (k : Int))) := fun H2 Hf2 t2 sf2 i => by
  refine ⟨fun d hd => ?_, fun hle => ?_⟩
  · rw [List.getElem?_map] at hd
    cases e : (List.range n)[i]? with
    | none => rw [e] at hd; cases hd
    | some j =>
      rw [e] at hd
      cases hd
      obtain ⟨h1, h2⟩ := List.getElem?_eq_some_iff.mp e
      simp at h1 h2
      subst h2
      refine ⟨h1, fun x H3 hy => ?_⟩
      obtain ⟨rfl, rfl⟩ := hy
      exact ⟨Hf2, Grows.refl sf2, Has.int_iff.mpr rfl⟩
  · show n ≤ i
    simpa using hle
theorem di_range1 {p pos : Pos} (hg : Gl X "range") (hm : X.mg "range" = none) (ha : DAR X [a] fa) (hs : starEach [a] X.env = [(false, eval a X.env)] := by rfl) : DI X tg (.Call (.Name "range" p) [a] [] pos) (rng1 fa) :=
  pi_imp (pi_range1 hg hm ha hs) fun σ H R' ⟨H₀, Hf₀, ρ, Hf, ds, R, q, k⟩ => by
    obtain ⟨l, e1, e2⟩ := bindA_some q
    unfold rangeA at e2
    split at e2
    · split at e2
      · cases e2
        rename_i j hj
        refine ⟨H₀, Hf₀, ρ, Hf, _, R, e1, fun vs H1 Hf1 R1 s1 t1 h1 => ?_⟩
        obtain ⟨v, rfl, hv⟩ := h1.one
        refine ⟨j, by rw [hv.int], hj.1, hj.2, k _ _ _ R1 s1 t1 ?_⟩
        have := walks_range (K := X.K) (Hf := Hf1) (lo := 0) (n := j.toNat)
        unfold rangeD
        rw [Int.sub_zero]
        exact this
      · cases e2
    · cases e2
theorem di_range2 {p pos : Pos} (hg : Gl X "range") (hm : X.mg "range" = none) (ha : DAR X [a, b] fa) (hs : starEach [a, b] X.env = [(false, eval a X.env), (false, eval b X.env)] := by rfl) (hs2 : starEach [b] X.env = [(false, eval b X.env)] := by rfl) :
    DI X tg (.Call (.Name "range" p) [a, b] [] pos) (rng2 fa) :=
  pi_imp (pi_range2 hg hm ha hs hs2) fun σ H R' ⟨H₀, Hf₀, ρ, Hf, ds, R, q, k⟩ => by
    obtain ⟨l, e1, e2⟩ := bindA_some q
    unfold rangeB at e2
    split at e2
    · split at e2
      · cases e2
        rename_i i j hj
        refine ⟨H₀, Hf₀, ρ, Hf, _, R, e1, fun vs H1 Hf1 R1 s1 t1 h1 => ?_⟩
        obtain ⟨v, v', rfl, hv, hv'⟩ := h1.two
        exact ⟨i, j, by rw [hv.int, hv'.int], hj, k _ _ _ R1 s1 t1 walks_range⟩
      · cases e2
    · cases e2
def appendF (i : Nat) (f : FE) : FS := fun ρ => (f ρ).bind fun d => match ρ[i]? with
  | some (.ol ds) => if ds.length < sizeLine then some (.nx (ρ.set i (.ol (ds ++ [d])))) else none
  | _ => none
theorem ds_append {x : Str} {p1 apos cpos pos : Pos} (i : Nat) (he : DE X e f) (hN : X.N[i]? = some x := by rfl) (hv : Vis X.env.scope x := by first | exact Or.inl rfl | exact Or.inr (Or.inl rfl) | exact Or.inr (Or.inr rfl))
    (hd : (x == ("__debug__" : Str)) = false := by decide) (hcd : (x == ("__classdict__" : Str)) = false := by decide)
    (hbase : attributeBase (.Name x p1) "append" X.env (eval (.Name x p1) X.env) = eval (.Name x p1) X.env := by rfl)
    (hfew : ((backTo cpos (starEach [e] X.env)).all (fun x => !x.1) && (backToKw cpos (keywordEach [] X.env)).all (fun x => x.1.isSome)
      && decide (([e] : List Expr).length + ([] : List Keyword).length + (if ([] : List Keyword).isEmpty then 0 else 1) < 30)) = true := by rfl)
    (hline : (apos.endLine == cpos.line) = true := by rfl) (hst : starEach [e] X.env = (false, eval e X.env) :: starEach [] X.env := by rfl) (hplain : (backTo cpos (starEach [] X.env)).any (·.1) = false := by rfl)
    (hs : swapsWith (.Call (.Attribute (.Name x p1) "append" apos) [e] [] cpos) none pos.line X.env = pure false := by rfl) :
    DS X (.Expr (.Call (.Attribute (.Name x p1) "append" apos) [e] [] cpos) pos) (appendF i f) :=
  ps_imp (ps_expr (pe_bm PySem.F.plainAttrs_list PySem.F.slot_list_append PySem.F.type_list_append mt_append (pe_var hN hv hd hcd) (pa_cons he pa_nil hst) hbase hfew hline hst hplain) hs) fun D' σ H ⟨H₀, Hf₀, ρ, Hf, o, R, q, k⟩ => by
    obtain ⟨d, e1, e2⟩ := bindV_some q
    split at e2
    · split at e2
      · cases e2
        rename_i ds el hz
        obtain ⟨a, p1, ⟨xs, p2, p3⟩, p4, p5⟩ := R.ow i _ el rfl
        refine ⟨_, p1, .inl ⟨rfl, xs, SqL.of p2⟩, H₀, Hf₀, ρ, Hf, d, R, e1, fun v H1 Hf1 R1 s1 t1 h1 => ?_⟩
        obtain ⟨a', r1, ⟨ys, r2, r3⟩, r4, r5⟩ := R1.ow i _ el rfl
        rw [p1] at r1; cases r1
        refine ⟨a, ys, v, rfl, rfl, r2, by rw [r3.length]; exact hz, ?_⟩
        exact k _ _ _ (R1.updOwn el rfl p1 rfl ⟨_, upd_same, r3.append (.cons h1 .nil)⟩) t1
      · cases e2
    · cases e2
def parF (i j : Nat) (fa : FA) : FS := fun ρ => (fa ρ).bind fun l => match l with
  | [d, d'] => some (.nx ((ρ.set i (.fr d)).set j (.fr d')))
  | _ => none
end
def spF (K : PySem.W.Frag) (n : Nat) (g : List D → Option D) : Sp := fun vs H Q _ => ∃ Hf ds d, Same Hf H ∧ HasL K Hf ds vs ∧ ds.length = n ∧ g ds = some d ∧ ∀ v H' Hf', Grows H Hf H' Hf' → Has K Hf' d v → Q v H'
def startR (n : Nat) (ds : List D) : Rho := ds.map Slot.fr ++ List.replicate (n - ds.length) Slot.no
def outD (o : Option Out) : Option D := match o with
  | some (.rt d) => some d
  | some (.nx _) => some .non
  | _ => none
def denF (m : Nat) (F : FS) : List D → Option D := fun ds => outD (F (startR m ds))
theorem rep_start {K : PySem.W.Frag} {N : List Str} {H Hf : Hp} {ds : List D} {vs : List V} (sf : Same Hf H) (h : HasL K Hf ds vs) : Rep K H Hf (L2.start N vs) (startR N.length ds) H Hf where
  s0 := sameR
  sf := sf
  nf := fun b o e => .inl e
  f0 := sameR
  len := by unfold startR L2.start; simp [h.length]
  fr := fun i d e => by
    unfold startR at e
    unfold L2.start
    by_cases hi : i < ds.length
    · rw [List.getElem?_append_left (by simpa using hi)] at e
      rw [List.getElem?_map] at e
      cases e1 : ds[i]? with
      | none => rw [e1] at e; cases e
      | some d' =>
        rw [e1] at e; cases e
        obtain ⟨v, e2, e3⟩ := h.get e1
        refine ⟨v, ?_, e3⟩
        have hl := h.length
        rw [List.getElem?_append_left (by simp; omega), List.getElem?_map, e2]
        rfl
    · rw [List.getElem?_append_right (by simpa using hi), List.getElem?_replicate] at e
      split at e <;> cases e
  ow := fun i sl e o => by
    unfold startR at e
    by_cases hi : i < ds.length
    · rw [List.getElem?_append_left (by simpa using hi), List.getElem?_map] at e
      cases e1 : ds[i]? with
      | none => rw [e1] at e; cases e
      | some d' => rw [e1] at e; cases e; cases o
    · rw [List.getElem?_append_right (by simpa using hi), List.getElem?_replicate] at e
      split at e
      · cases e; cases o
      · cases e
  inj := fun i j sl sl' a e o e' o' _ _ => by
    unfold startR at e
    by_cases hi : i < ds.length
    · rw [List.getElem?_append_left (by simpa using hi), List.getElem?_map] at e
      cases e1 : ds[i]? with
      | none => rw [e1] at e; cases e
      | some d' => rw [e1] at e; cases e; cases o
    · rw [List.getElem?_append_right (by simpa using hi), List.getElem?_replicate] at e
      split at e
      · cases e; cases o
      · cases e
section
variable {P : Program} {w : World} {K : PySem.W.Frag} {mg : Str → Option Value} {base : Heap}
theorem fn_den {x qual : Str} {st : Stmt} {f : Addr} {fd : FuncData} {N ps : List Str} {k m n : Nat} {F : FS} (hm : N.length = m) (hn : ps.length = n) (Fn : Fun K x qual st f fd) (S : FnScope N ps (defScope st))
    (body : ∀ (cdv : Value) (A : Around) (outer : List Env) (s : Shared) (H : Hp) (E : XK), Room k (A.deeper (envOfC qual (defScope st) s.heap.objs.size f cdv)) →
      DSs (cxOf CX0 P w K mg base N qual (defScope st) f cdv A outer s H E).nox (defBody st) F) :
    FnOk P w K mg base CX0 (k + 1) f fd ps (spF K n (denF m F)) := by
  subst hm hn
  refine Fn.ok S (fun vs H Q E h => ?_) (fun cdv A outer s H vs Q E hr h => ?_)
  · obtain ⟨Hf, ds, d, _, h1, h2, _⟩ := h
    rw [h1.length]; exact h2
  · obtain ⟨Hf, ds, d, sf, h1, h2, h3, q⟩ := h
    refine ⟨_, body cdv A outer s H E hr, ?_⟩
    unfold denF outD at h3
    have R := rep_start (N := N) sf h1
    have fin : ∀ (v : V) (σ' : St) (ρ' : Rho) (H' Hf' : Hp), Rep K H Hf σ' ρ' H' Hf' → Has K Hf' d v → Q v H' := fun v σ' ρ' H' Hf' R' hv => q v H' Hf' ⟨R'.s0, R'.f0, R'.sf, R'.nf⟩ hv
    split at h3
    · cases h3
      rename_i d e
      exact ⟨H, Hf, _, Hf, _, R, e, fun v σ' ρ' H' Hf' R' _ hv => fin v σ' ρ' H' Hf' R' hv⟩
    · cases h3
      rename_i ρ' e
      exact ⟨H, Hf, _, Hf, _, R, e, fun σ' H' Hf' R' _ => fin _ σ' ρ' H' Hf' R' (Has.non_iff.mpr rfl)⟩
    · cases h3
end
section
variable {X : Cx} {e : Expr} {es : List Expr} {fa : FA} {pos : Pos}
theorem d_call {CX : CXT} {k : Nat} {f : Addr} {fd : FuncData} {ps : List Str} {g : List D → Option D} {E : XK} {x : Str} {p : Pos} {n : Nat} (Fn : FnOk X.prog X.w X.K X.mg X.base CX k f fd ps (spF X.K n g)) (hr : Room k X.A) (hg : Gl X x) (hm : X.mg x = some (.ref f))
    (hk : PySem.W.keepIn X.K (.ref f) = true) (hb : Binds X.K fd ps []) (hx : Passes CX X E) (ha : DA X (e :: es) fa) (hn : ∀ ρ ds, fa ρ = some ds → ds.length = n)
    (hdb : (x == ("__debug__" : Str)) = false := by decide) (he : starEach (e :: es) X.env = (false, eval e X.env) :: starEach es X.env := by rfl) (hpl : (backTo pos (starEach es X.env)).any (·.1) = false := by rfl) :
    DE X (.Call (.Name x p) (e :: es) [] pos) (appF g fa) :=
  pe_imp (pe_call Fn hr hg hm hk hb .nil hx ha hdb he hpl) fun σ H Q ⟨H₀, Hf₀, ρ, Hf, d, R, q, k⟩ => by
    obtain ⟨ds, e1, e2⟩ := bindA_some q
    refine ⟨H₀, Hf₀, ρ, Hf, ds, R, e1, fun vs H1 Hf1 R1 s1 t1 h1 => ?_⟩
    show spF X.K n g (vs ++ []) H1 Q E
    rw [List.append_nil]
    exact ⟨Hf1, ds, d, R1.sf, h1, hn ρ ds e1, e2, fun v H2 Hf2 gr hv => k _ _ _ (R1.grows gr) (s1.trans gr.h) (t1.trans gr.f) hv⟩
end
theorem lenA0 : ∀ (ρ : Rho) (ds : List D), nilA ρ = some ds → ds.length = 0 := fun ρ ds h => by cases h; rfl
theorem lenAS {f : FE} {g : FA} {n : Nat} (h : ∀ (ρ : Rho) (ds : List D), g ρ = some ds → ds.length = n) : ∀ (ρ : Rho) (ds : List D), consA f g ρ = some ds → ds.length = n + 1 := fun ρ ds q => by
  obtain ⟨x, xs, _, e2, rfl⟩ := consA_some q
  simp [h ρ xs e2]
theorem law_sp {K : PySem.W.Frag} {g : List D → Option D} {H : Hp} {a : Addr} {ns : List Int} (hq : SqL K H a (ns.map V.int)) (hg : g [.lst (ns.map D.int)] = some (.bl true)) : spF K 1 g [.ref a] H (fun v _ => v = .bl true) fun _ _ _ => False :=
  ⟨H, [.lst (ns.map D.int)], .bl true, sameR, .cons (Has.lst_iff.mpr ⟨a, _, rfl, hq, HasL.ints ns⟩) .nil, rfl, hg, fun v H' Hf' _ hv => Has.bl_iff.mp hv⟩
end FL
set_option Elab.async false
set_option linter.all false
set_option maxRecDepth 100000
set_option maxHeartbeats 4000000
namespace FL
open PySem PySem.Spec PyProof.Rows L2
def tyN : D → String
  | .non => "NoneType"
  | .bl _ => "bool"
  | .int _ => "int"
  | .str _ => "str"
  | .tup _ => "tuple"
  | .lst _ => "list"
def subTy (t T : String) : Bool := t == T || (t == "bool" && T == "int")
def isTy (T : String) (d : D) : Option D := some (.bl (subTy (tyN d) T))
def TyOk (T : String) : Prop := ∀ (K : PySem.W.Frag) (d : D), PySem.W.kitOne K (.type (tyN d)) (.type T) = some (subTy (tyN d) T)
theorem ty_int : TyOk "int" := fun K d => by cases d <;> kernel_rfl
theorem ty_bool : TyOk "bool" := fun K d => by cases d <;> kernel_rfl
theorem ty_str : TyOk "str" := fun K d => by cases d <;> kernel_rfl
theorem ty_tuple : TyOk "tuple" := fun K d => by cases d <;> kernel_rfl
theorem ty_list : TyOk "list" := fun K d => by cases d <;> kernel_rfl
section
variable {X : Cx} {pins : List (Addr × Obj)} {σ : St} {H : Hp} {s : Shared} {A : Around} {E : Value → Shared → Prop} {Q : Value → Shared → Prop} {c : Value} {b : Bool}
theorem isinst_d {d : D} {v : V} {u : Value} (I : Inv X pins σ H s) (hd : Has X.K H d v) (rx : RelV v u) (e : PySem.W.kitOne X.K (.type (tyN d)) c = some b) (h : ∀ tk, Q (.bool b) { s with toks := tk }) :
    wpAny (model X.prog X.w) A (call (.builtin "isinstance") [u, c]) Q E s := by
  cases d with
  | non => rw [Has.non_iff] at hd; subst hd; cases rx; exact PySem.W.kia_one PySem.W.kitx_none I.kIn True.intro e (fun z => nomatch z) h
  | bl y => rw [Has.bl_iff] at hd; subst hd; cases rx; exact PySem.W.kia_one PySem.W.kitx_bool I.kIn True.intro e (fun z => nomatch z) h
  | int y => rw [Has.int_iff] at hd; subst hd; obtain ⟨t, rfl⟩ := rx; exact PySem.W.kia_one PySem.W.kitx_int I.kIn True.intro e (fun z => nomatch z) h
  | str y => rw [Has.str_iff] at hd; subst hd; obtain ⟨t, rfl⟩ := rx; exact PySem.W.kia_one PySem.W.kitx_str I.kIn True.intro e (fun z => nomatch z) h
  | tup ds =>
    obtain ⟨a, xs, rfl, q, _⟩ := Has.tup_iff.mp hd
    cases rx
    obtain ⟨its, _, ⟨o, h1, h2, _⟩, _⟩ := I.tuple q
    exact PySem.W.kia_one PySem.W.kitx_tuple I.kIn ⟨o, h1, h2⟩ e (fun z => nomatch z) h
  | lst ds =>
    obtain ⟨a, xs, rfl, q, _⟩ := Has.lst_iff.mp hd
    cases rx
    obtain ⟨its, _, ⟨o, n, h1, h2, _⟩, _⟩ := I.list q
    exact PySem.W.kia_one PySem.W.kitx_list I.kIn ⟨o, h1, h2⟩ e (fun z => nomatch z) h
end
section
variable {X : Cx} {e a b c : Expr} {es : List Expr} {f g h : FE} {fa ga : FA} {pos : Pos}
theorem call_isTy {T : String} (hT : TyOk T) : CallR X (.builtin "isinstance") (fun xs H Q => ∃ v d, xs = [v, .ty T] ∧ Has X.K H d v ∧ Q (.bl (subTy (tyN d) T)) H) := by
  intro pins s σ H xs us Q I r h
  obtain ⟨v, d, rfl, hd, q⟩ := h
  obtain ⟨u, w', rfl, rx, ry⟩ := vals2 r
  cases ry
  exact isinst_d I hd rx (hT X.K d) fun tk => ⟨.bl _, H, I.tok _, rfl, q⟩
theorem d_isTy {T : String} {x y : Str} {p p2 : Pos} (hT : TyOk T) (ha : DR X a f) (hg : Gl X x) (hm : X.mg x = none) (hg2 : Gl X y) (hm2 : X.mg y = none) (hv : bootBuiltins x = some (.builtin "isinstance") := by rfl) (hv2 : bootBuiltins y = some (.type T) := by rfl)
    (hn : x ≠ "__name__" := by decide) (hdb : (x == ("__debug__" : Str)) = false := by decide) (hn2 : y ≠ "__name__" := by decide) (hdb2 : (y == ("__debug__" : Str)) = false := by decide)
    (he : starEach [a, .Name y p2] X.env = (false, eval a X.env) :: starEach [.Name y p2] X.env := by rfl) (he2 : starEach [.Name y p2] X.env = (false, eval (.Name y p2) X.env) :: starEach [] X.env := by rfl) (hpl : (backTo pos (starEach [.Name y p2] X.env)).any (·.1) = false := by rfl) :
    DE X (.Call (.Name x p) [a, .Name y p2] [] pos) (bind1 (isTy T) f) :=
  pe_imp (pe_callB (call_isTy hT) hg hm hv (pa_cons ha (pa_cons (pe_bltn (v := .ty T) hg2 hm2 hv2 rfl hn2 hdb2) pa_nil he2) he) hn hdb he hpl) fun σ H Q ⟨H₀, Hf₀, ρ, Hf, d, R, q, k⟩ => by
    obtain ⟨x, e1, e2⟩ := bindV_some q
    cases e2
    exact ⟨H₀, Hf₀, ρ, Hf, x, R, e1, fun v H1 Hf1 R1 s1 t1 h1 => ⟨v, x, rfl, h1.full R1, k _ _ _ R1 s1 t1 (Has.bl_iff.mpr rfl)⟩⟩
theorem d_gstr {x z : Str} {pos : Pos} (hg : Gl X x) (hm : ∃ t, X.mg x = some (.str z t)) (hd : (x == ("__debug__" : Str)) = false := by decide) : DE X (.Name x pos) (cF (.str z)) := by
  obtain ⟨t, hm⟩ := hm
  exact d_glob hg hm rfl ⟨t, rfl⟩ hd
theorem d_gint {x : Str} {z : Int} {pos : Pos} (hg : Gl X x) (hm : ∃ t, X.mg x = some (.int z t)) (hd : (x == ("__debug__" : Str)) = false := by decide) : DE X (.Name x pos) (cF (.int z)) := by
  obtain ⟨t, hm⟩ := hm
  exact d_glob hg hm rfl ⟨t, rfl⟩ hd
end
structure HasFn (P : Program) (w : World) (K : PySem.W.Frag) (mg : Str → Option Value) (base : Heap) (k : Nat) (x : Str) (n : Nat) (g : List D → Option D) : Prop where
  ex : ∃ (f : Addr) (fd : FuncData) (ps : List Str), FnOk P w K mg base CX0 k f fd ps (spF K n g) ∧ mg x = some (.ref f) ∧ PySem.W.keepIn K (.ref f) = true ∧ Binds K fd ps []
theorem d_callH {X : Cx} {e : Expr} {es : List Expr} {fa : FA} {pos : Pos} {k : Nat} {g : List D → Option D} {x : Str} {p : Pos} {n : Nat} (Fn : HasFn X.prog X.w X.K X.mg X.base k x n g) (hr : Room k X.A) (hg : Gl X x) (ha : DA X (e :: es) fa) (hn : ∀ ρ ds, fa ρ = some ds → ds.length = n)
    (hdb : (x == ("__debug__" : Str)) = false := by decide) (he : starEach (e :: es) X.env = (false, eval e X.env) :: starEach es X.env := by rfl) (hpl : (backTo pos (starEach es X.env)).any (·.1) = false := by rfl) :
    DE X (.Call (.Name x p) (e :: es) [] pos) (appF g fa) := by
  obtain ⟨f, fd, ps, h1, h2, h3, h4⟩ := Fn.ex
  exact d_call h1 hr hg h2 h3 h4 pass0 ha hn hdb he hpl
end FL
set_option Elab.async false
set_option linter.all false
set_option maxRecDepth 100000
set_option maxHeartbeats 4000000
namespace FL
open PySem PySem.Spec PyProof.Rows L2
theorem lt_big {n k : Nat} (h : n < 2 ^ k) (hk : k ≤ 8000) : n < big := Nat.lt_of_lt_of_le h (Nat.pow_le_pow_right (by decide) hk)
theorem mulOk_l {i j : Int} (h1 : -(2 ^ 64) < i) (h2 : i < 2 ^ 64) : MulB i j := .inl (by omega)
theorem mulOk_r {i j : Int} (h1 : -(2 ^ 64) < j) (h2 : j < 2 ^ 64) : MulB i j := .inr (.inl (by omega))
theorem mulD_ok {i j : Int} (h : MulB i j) : mulD (.int i) (.int j) = some (.int (i * j)) := by
  show (if MulB i j then _ else _) = _
  rw [if_pos h]
theorem modD_ok {i j : Int} (h : 0 < j) : modD (.int i) (.int j) = some (.int (i % j)) := by
  show (if 0 < j then _ else _) = _
  rw [if_pos h]
theorem fdivD_ok {i j : Int} (h : 0 < j) (h2 : j < 2 ^ 64) : fdivD (.int i) (.int j) = some (.int (i / j)) := by
  show (if DivB j then _ else _) = _
  rw [if_pos ⟨h, h2⟩]
theorem powD_ok {i j : Int} (h : PowB i j) : powD (.int i) (.int j) = some (.int (i ^ j.toNat)) := by
  show (if PowB i j then _ else _) = _
  rw [if_pos h]
theorem eqF_int {i j : Int} : eqF (.int i) (.int j) = some (.bl (decide (i = j))) := by unfold eqF; simp [dep, eqD]; rfl
theorem neF_int {i j : Int} : neF (.int i) (.int j) = some (.bl (!decide (i = j))) := by unfold neF; simp [dep, eqD]; rfl
end FL
set_option Elab.async false
set_option linter.all false
set_option maxRecDepth 100000
set_option maxHeartbeats 4000000
namespace FL
open PySem PySem.Spec PyProof.Rows L2
def closeGo (env : Env) : List (Str × NameKind) → List (Str × Addr) → Option (List (Str × Addr))
  | [], cs => some cs
  | (n, k) :: r, cs => if k == .free then match env.cells.lookup n with
      | some c => closeGo env r ((n, c) :: cs)
      | none => none
    else closeGo env r cs
def closeBody (env : Env) : (Str × NameKind) → List (Str × Addr) → Sem (ForInStep (List (Str × Addr))) := fun x c => match x with
  | (name, kind) => if (kind == NameKind.free) = true then do let a ← cellOf env name; pure (ForInStep.yield ((name, a) :: c)) else pure (ForInStep.yield c)
theorem closeBody_free {env : Env} {n : Str} {k : NameKind} {c : Addr} {cs : List (Str × Addr)} (hk : (k == NameKind.free) = true) (hc : env.cells.lookup n = some c) : closeBody env (n, k) cs = pure (.yield ((n, c) :: cs)) := by
  unfold closeBody cellOf
  simp only [hk, if_true, hc]
  rfl
theorem closeBody_no {env : Env} {n : Str} {k : NameKind} {cs : List (Str × Addr)} (hk : (k == NameKind.free) = false) : closeBody env (n, k) cs = pure (.yield cs) := by
  unfold closeBody
  simp only [hk, Bool.false_eq_true, if_false]
theorem closeGo_eq {env : Env} : ∀ (l : List (Str × NameKind)) (cs cl : List (Str × Addr)), closeGo env l cs = some cl → (forIn l cs (closeBody env) : Sem (List (Str × Addr))) = pure cl
  | [], cs, cl, h => by cases h; rfl
  | (n, k) :: r, cs, cl, h => by
    rw [List.forIn_cons]
    unfold closeGo at h
    cases hk : k == NameKind.free with
    | true =>
      rw [hk] at h
      cases hc : env.cells.lookup n with
      | none => rw [hc] at h; cases h
      | some c =>
        rw [hc] at h
        rw [closeBody_free hk hc]
        exact closeGo_eq r _ cl h
    | false =>
      rw [hk] at h
      rw [closeBody_no hk]
      exact closeGo_eq r _ cl h
theorem closureFor_go {scope : Scope} {env : Env} {cl : List (Str × Addr)} (h : closeGo env scope.names [] = some cl) : closureFor scope env = pure cl := by
  have e := closeGo_eq (env := env) scope.names [] cl h
  unfold closureFor
  simp only [bind_pure]
  exact e
theorem closeGo_ex {env : Env} : ∀ (l : List (Str × NameKind)) (cs : List (Str × Addr)), (∀ n, (n, NameKind.free) ∈ l → ∃ c, env.cells.lookup n = some c) → (∀ x c, cs.lookup x = some c → env.cells.lookup x = some c) →
    ∃ cl, closeGo env l cs = some cl ∧ (∀ x c, cl.lookup x = some c → env.cells.lookup x = some c) ∧ (∀ x c, cs.lookup x = some c → ∃ c', cl.lookup x = some c') ∧ ∀ n, (n, NameKind.free) ∈ l → ∃ c, cl.lookup n = some c
  | [], cs, _, h2 => ⟨cs, rfl, h2, fun x c e => ⟨c, e⟩, fun n hn => by cases hn⟩
  | (n, k) :: r, cs, h1, h2 => by
    cases hk : k == NameKind.free with
    | true =>
      have hkf : k = .free := by simpa using hk
      subst hkf
      obtain ⟨c, hc⟩ := h1 n List.mem_cons_self
      obtain ⟨cl, e1, e2, e3, e4⟩ := closeGo_ex r ((n, c) :: cs) (fun m hm => h1 m (List.mem_cons_of_mem _ hm)) (fun x d e => by
        rw [List.lookup_cons] at e
        cases hx : x == n with
        | true => rw [hx] at e; cases e; have : x = n := by simpa using hx
                  rw [this]; exact hc
        | false => rw [hx] at e; exact h2 x d e)
      refine ⟨cl, by unfold closeGo; rw [hk, hc]; exact e1, e2, fun x d e => ?_, fun m hm => ?_⟩
      · cases hx : x == n with
        | true => exact e3 x c (by rw [List.lookup_cons, hx])
        | false => exact e3 x d (by rw [List.lookup_cons, hx]; exact e)
      · rcases List.mem_cons.mp hm with q | q
        · cases q; exact e3 n c (by rw [List.lookup_cons]; simp)
        · exact e4 m q
    | false =>
      obtain ⟨cl, e1, e2, e3, e4⟩ := closeGo_ex r cs (fun m hm => h1 m (List.mem_cons_of_mem _ hm)) h2
      refine ⟨cl, by unfold closeGo; rw [hk]; exact e1, e2, e3, fun m hm => ?_⟩
      rcases List.mem_cons.mp hm with q | q
      · cases q; simp at hk
      · exact e4 m q
structure CompScope (osc : Scope) (scope : Scope) (own frees : List Str) : Prop where
  kind : scope.kind = .function
  nocell : ∀ y ∈ scope.names, y.2 ≠ .cell
  loc : ∀ y ∈ scope.names, y.2 = .local → scope.names.lookup y.1 = some .local
  free : ∀ y ∈ scope.names, y.2 = .free → osc.names.lookup y.1 = some .cell ∨ osc.names.lookup y.1 = some .free
  capt : ∀ x ∈ frees, (osc.names.lookup x = some .cell ∨ osc.names.lookup x = some .free) ∧ scope.names.lookup x = some .free
theorem lookup_mem {α : Type} : ∀ {l : List (Str × α)} {x : Str} {k : α}, l.lookup x = some k → (x, k) ∈ l
  | [], _, _, h => by simp at h
  | (n, k) :: r, x, k', h => by
    rw [List.lookup_cons] at h
    cases hx : x == n with
    | true => rw [hx] at h; cases h; have : x = n := by simpa using hx
              subst this; exact List.mem_cons_self
    | false => rw [hx] at h; exact List.mem_cons_of_mem _ (lookup_mem h)
theorem relabel_cf {env : Env} {x : Str} : ∀ {l : List (Str × NameKind)}, (∀ y ∈ l, y.2 ≠ .cell) →
    ((l.map fun (n, k) => if (k == NameKind.free && env.scope.kind == .function && env.kindOf n == some .cell) then (n, NameKind.cell) else (n, k)).lookup x = some .cell ∨
     (l.map fun (n, k) => if (k == NameKind.free && env.scope.kind == .function && env.kindOf n == some .cell) then (n, NameKind.cell) else (n, k)).lookup x = some .free) → (x, NameKind.free) ∈ l
  | [], _, h => by simp at h
  | (n, k) :: r, hc, h => by
    have ih := @relabel_cf env x r (fun y hy => hc y (List.mem_cons_of_mem _ hy))
    have hk : k ≠ .cell := hc (n, k) List.mem_cons_self
    rw [List.map_cons] at h
    by_cases hq : (k == NameKind.free && env.scope.kind == .function && env.kindOf n == some .cell) = true
    · simp only [hq, if_true, List.lookup_cons] at h
      cases hx : x == n with
      | true =>
        have e1 : x = n := by simpa using hx
        have e2 : k = .free := by simp at hq; exact hq.1.1
        subst e1 e2; exact List.mem_cons_self
      | false => rw [hx] at h; exact List.mem_cons_of_mem _ (ih h)
    · simp only [hq, Bool.false_eq_true, if_false, List.lookup_cons] at h
      cases hx : x == n with
      | true =>
        rw [hx] at h
        have e1 : x = n := by simpa using hx
        subst e1
        rcases h with h | h
        · cases h; exact absurd rfl hk
        · cases h; exact List.mem_cons_self
      | false => rw [hx] at h; exact List.mem_cons_of_mem _ (ih h)
theorem relabel_free {env : Env} {x : Str} : ∀ {l : List (Str × NameKind)}, l.lookup x = some .free →
    ((l.map fun (n, k) => if (k == NameKind.free && env.scope.kind == .function && env.kindOf n == some .cell) then (n, NameKind.cell) else (n, k)).lookup x = some .cell ∨
     (l.map fun (n, k) => if (k == NameKind.free && env.scope.kind == .function && env.kindOf n == some .cell) then (n, NameKind.cell) else (n, k)).lookup x = some .free)
  | [], h => by simp at h
  | (n, k) :: r, h => by
    have ih := @relabel_free env x r
    rw [List.map_cons]
    rw [List.lookup_cons] at h
    by_cases hq : (k == NameKind.free && env.scope.kind == .function && env.kindOf n == some .cell) = true
    · simp only [hq, if_true, List.lookup_cons]
      cases hx : x == n with
      | true => exact .inl rfl
      | false => rw [hx] at h; exact ih h
    · simp only [hq, Bool.false_eq_true, if_false, List.lookup_cons]
      cases hx : x == n with
      | true => rw [hx] at h; exact .inr h
      | false => rw [hx] at h; exact ih h
theorem compLoop_any {prog : Program} {w : World} {A : Around} {R : Result → Shared → Prop} {s : Shared} {elt target iter : Expr} {ifs : List Expr} {scope : Scope} {pos : Pos} {it acc : Value} {env : Env} (I : Nat → Shared → Prop)
    (turn : ∀ n s, I n s → wpAny (model prog w) A (pyNext it) (fun r s₁ => match r with
      | none => R (.ok .next) s₁
      | some v => wpAny (model prog w) A (letOwnedTupleGo target it v) (fun _ s₁' => wpAny (model prog w) A (assign target env v) (fun _ s₂ =>
          wpAny (model prog w) A (forIn ifs true fun c r => if r = true then do let ok ← isTrue c env (eval c env); pure (ForInStep.yield ok) else pure (ForInStep.yield r)) (fun ok s₃ =>
            if ok = true then wpAny (model prog w) A (eval elt env) (fun x s₄ =>
              wpAny (model prog w) A (call (.builtin "list.append") [acc, x]) (fun _ s₅ => ∃ m, m < n ∧ I m s₅) (fun _ _ => False) s₄) (fun _ _ => False) s₃
            else ∃ m, m < n ∧ I m s₃) (fun _ _ => False) s₂) (fun _ _ => False) s₁') (fun _ _ => False) s₁) (fun _ _ => False) s)
    (n : Nat) (h : I n s) :
    codeAny (model prog w) A (.compLoop (.ListComp elt [⟨target, iter, ifs, 0⟩] scope pos) 0 it acc env) R s := by
  refine codeAny_loop rfl I (fun n s hI => ?_) n h
  show wpAny _ A ((compTurn (.ListComp elt [⟨target, iter, ifs, 0⟩] scope pos) 0 it acc env).onRaise (fun x => do noteFrame x env; theTreesLotGoes x)) _ _ s
  refine wpAny_noted ?_
  rw [compTurn_list]
  refine wpAny_bind (wpAny_standAt (wpAny_bind (wpAny_mono (turn n s hI) (fun r s₁ h₁ => ?_) fun _ _ h' => h'.elim)))
  cases r with
  | none => exact wpAny_pure h₁
  | some v =>
    refine wpAny_bind (wpAny_mono h₁ (fun _ s₁' h₁' => ?_) fun _ _ h' => h'.elim)
    refine wpAny_bind (wpAny_mono h₁' (fun _ s₂ h₂ => wpAny_bind (wpAny_mono h₂ (fun ok s₃ h₃ => ?_) fun _ _ h' => h'.elim)) fun _ _ h' => h'.elim)
    cases ok with
    | false => exact wpAny_pure ⟨rfl, h₃⟩
    | true =>
      exact wpAny_bind (wpAny_bind (wpAny_mono h₃ (fun x s₄ h₄ => wpAny_bind (wpAny_mono h₄ (fun _ s₅ h₅ => wpAny_pure (wpAny_pure ⟨rfl, h₅⟩)) fun _ _ h' => h'.elim)) fun _ _ h' => h'.elim))
def cxC (X : Cx) (scope : Scope) (cl : List (Str × Addr)) (C : Addr) (N : List Str) (s : Shared) (H : Hp) (fp : List Addr) : Cx :=
  { X with N := N, s₀ := s, H₀ := H, env := compEnvC scope cl C X.env, outer := X.stack, stack := X.stack, ex := fp, fn := fun _ => false, pn := [], xe := fun _ _ => False }
end FL
set_option Elab.async false
set_option linter.all false
set_option maxRecDepth 100000
set_option maxHeartbeats 4000000
namespace FL
open PySem PySem.Spec PyProof.Rows L2
def capS (ρ : Rho) (j : Nat) : Slot := match ρ[j]? with
  | some (.fr d) => .fr d
  | _ => .no
def compGo (γ : FG) (ft : FT) (f : FE) : List D → Rho → Option (List D)
  | [], _ => some []
  | d :: ds, ρ => (γ d ρ).bind fun ρ1 => (ft ρ1).bind fun b => if b = true then (f ρ1).bind fun y => (compGo γ ft f ds ρ1).bind fun ys => some (y :: ys) else compGo γ ft f ds ρ1
def compS (n : Nat) (caps : List Nat) (ρ : Rho) : Rho := List.replicate n .no ++ caps.map (capS ρ)
def compF (n : Nat) (caps : List Nat) (fi : FA) (γ : FG) (ft : FT) (f : FE) : FA := fun ρ => (fi ρ).bind fun ds => if ds.length ≤ sizeLine then compGo γ ft f ds (compS n caps ρ) else none
def DQ (X : Cx) (ifs : List Expr) (ft : FT) : Prop :=
  ∀ (pins : List (Addr × Obj)) (s : Shared) (σ : St) (H : Hp) (Q : Bool → Hp → Prop), Inv X pins σ H s → tT X.K ft σ H Q →
    wpAny (model X.prog X.w) X.A (forIn ifs true fun c r => if r = true then do let ok ← isTrue c X.env (eval c X.env); pure (ForInStep.yield ok) else pure (ForInStep.yield r)) (TP X pins σ Q) X.xe s
def ttF : FT := fun _ => some true
theorem dq_nil {X : Cx} : DQ X [] ttF := fun pins s σ H Q I h => by
  obtain ⟨H₀, Hf₀, ρ, Hf, b, R, q, k⟩ := h
  cases q
  exact wpAny_tests_nil ⟨H, I, k _ _ R sameR sameR⟩
theorem dq_one {X : Cx} {c : Expr} {ft : FT} (h : DT X c ft) : DQ X [c] ft := fun pins s σ H Q I hq => wpAny_tests_one (h pins s σ H Q I hq)
def compσ (n : Nat) (caps : List Nat) (σ : St) : St := List.replicate n none ++ caps.map (fun j => σ.getD j none)
section
variable {X : Cx} {scope : Scope} {own frees : List Str} {caps : List Nat} {cl : List (Str × Addr)}
theorem cxC_ok {pins : List (Addr × Obj)} {s : Shared} {σ : St} {H : Hp} {fp : List Addr} {C : Addr} {N : List Str} (I : Inv X pins σ H s) (S : CompScope X.env.scope scope own frees) (hfp : ∀ b ∈ fp, FpOk X pins H b) (hfo : ∀ b ∈ fp, b < s.heap.objs.size)
    (c1 : ∀ x c, cl.lookup x = some c → X.env.cells.lookup x = some c) (c2 : ∀ n, (n, NameKind.free) ∈ scope.names → ∃ c, cl.lookup n = some c) (hC : s.heap.objs.size ≤ C) : (cxC X scope cl C N s H fp).Ok where
  mod := I.ok.mod
  kind := S.kind
  glob := I.ok.glob
  blt := I.ok.blt
  above := hC
  inj := fun x y c e1 e2 => I.ok.inj x y c (c1 x c e1) (c1 y c e2)
  has := fun x hx => c2 x (relabel_cf S.nocell hx)
  cab := fun x c h => by cases h
  hd := I.ok.hd
  frames := I.ok.frames
  stk := .inl rfl
  exf := fun b hb => ⟨Nat.ne_of_lt (Nat.lt_of_lt_of_le (hfo b hb) hC), fun x c e => (hfp b hb).2.2.2.2.1 x c (c1 x c e)⟩
  bs := I.bs
  bsz := Nat.le_trans I.ok.bsz I.sz
  noex := fun b o e hb => by
    rcases (hfp b hb).2.2.2.1 with z | z
    · exact I.ok.noex b o e z
    · exact absurd (Nat.lt_of_lt_of_le (Heap.lt_size e) (Nat.le_trans I.ok.bsz z)) (Nat.lt_irrefl _)
  exfs := fun b hb z => by
    rcases List.mem_cons.mp (I.stkSub b z) with q | q
    · exact (hfp b hb).2.1 q
    · exact (hfp b hb).2.2.1 q
  funs := I.stack
  frf := I.stkFree
theorem map_get {caps : List Nat} {N : List Str} {frees : List Str} (h : caps.map (fun j => N[j]?) = frees.map some) {k : Nat} {x : Str} (e : frees[k]? = some x) : ∃ j, caps[k]? = some j ∧ N[j]? = some x := by
  have := congrArg (fun l => l[k]?) h
  simp only [List.getElem?_map, e, Option.map_some] at this
  cases hc : caps[k]? with
  | none => rw [hc] at this; cases this
  | some j => rw [hc] at this; exact ⟨j, rfl, by simpa using this⟩
theorem cxC_inv {pins : List (Addr × Obj)} {s : Shared} {σ : St} {H : Hp} {fp : List Addr} {h' : Heap} {t' : Nat} (I : Inv X pins σ H s) (S : CompScope X.env.scope scope own frees) (hcap : caps.map (fun j => X.N[j]?) = frees.map some) (hfp : ∀ b ∈ fp, FpOk X pins H b) (hfo : ∀ b ∈ fp, b < s.heap.objs.size)
    (c1 : ∀ x c, cl.lookup x = some c → X.env.cells.lookup x = some c) (c2 : ∀ n, (n, NameKind.free) ∈ scope.names → ∃ c, cl.lookup n = some c) {C : Addr} (hC : C = s.heap.objs.size + 1) (hns : h'.Ns C fun _ => none)
    (hsb : Heap.SameBut C ((s.heap.push { cls := .type "list", dict := none, data := .seq #[] }).push { cls := .type "dict", data := .dict #[] }) h') :
    Inv (cxC X scope cl C (own ++ frees) s H fp) [] (compσ own.length caps σ) (upd H s.heap.objs.size (.lst [])) { s with heap := h', toks := t' } := by
  have hk : ∀ b u, s.heap.get? b = some u → h'.get? b = some u := fun b u e => (hsb.2 b (by rw [hC]; exact Nat.ne_of_lt (Nat.lt_succ_of_lt (Heap.lt_size e)))).trans (Heap.get?_push_of_some _ (Heap.get?_push_of_some _ e))
  have hD : h'.get? s.heap.objs.size = some { cls := .type "list", dict := none, data := .seq #[] } := (hsb.2 _ (by rw [hC]; exact Nat.ne_of_lt (Nat.lt_succ_self _))).trans (Heap.get?_push_of_some _ (Heap.get?_push_size _ rfl))
  have hfD : H s.heap.objs.size = none := I.hok.fresh (Nat.le_refl _)
  have hfC : H C = none := I.hok.fresh (by rw [hC]; exact Nat.le_succ _)
  have hCD : C ≠ s.heap.objs.size := by rw [hC]; exact Nat.succ_ne_self _
  have new : ObjOk X.prog X.w (upd H s.heap.objs.size (.lst [])) h' s.heap.objs.size (.lst []) := ⟨by decide, [], 0, .nil, hD⟩
  refine ⟨cxC_ok I S hfp hfo c1 c2 (by rw [hC]; exact Nat.le_succ _), rfl, I.bare, Un.laid hk (Nat.le_refl _) hfD, ⟨fun _ => none, hns, ?_⟩, ?_, ?_, ?_, ?_, I.hok.laid hk (Nat.le_refl _) new, ?_⟩
  · intro i x v e1 e2 hv
    have e1 : (own ++ frees)[i]? = some x := e1
    unfold compσ at e2
    by_cases h1 : i < own.length
    · rw [List.getElem?_append_left (by simpa using h1), List.getElem?_replicate, if_pos h1] at e2
      cases e2
    · rw [List.getElem?_append_right (by simpa using h1)] at e2
      rw [List.getElem?_append_right (by omega)] at e1
      have hcl : caps.length = frees.length := by have := congrArg List.length hcap; simpa using this
      simp only [List.length_replicate] at e2
      · rw [List.getElem?_map] at e2
        obtain ⟨j, q1, q2⟩ := map_get hcap e1
        rw [q1] at e2
        have e2 : σ.getD j none = some v := by simpa using e2
        have e2' : σ[j]? = some (some v) := by
          rw [List.getD_eq_getElem?_getD] at e2
          cases z : σ[j]? with
          | none => rw [z] at e2; cases e2
          | some w => rw [z] at e2; simp at e2; rw [e2]
        obtain ⟨hx, hsx⟩ := S.capt x (List.mem_of_getElem? e1)
        obtain ⟨m, hn, hl⟩ := I.loc
        obtain ⟨u, r, lk⟩ := hl j x v q2 e2' (.inr hx)
        refine ⟨u, r, ?_⟩
        rcases lk with ⟨k1, _⟩ | ⟨k1, c, k2, k3⟩
        · have k1 : X.env.scope.names.lookup x = some .local := k1
          rcases hx with z | z <;> rw [z] at k1 <;> cases k1
        · obtain ⟨c', hc'⟩ := c2 x (lookup_mem hsx)
          have z := c1 x c' hc'
          rw [k2] at z; cases z
          obtain ⟨o, ho, hd⟩ := k3
          exact .inr ⟨relabel_free hsx, c, hc', o, hk _ _ ho, hd⟩
  · intro x c e
    obtain ⟨v, o, ho, hd⟩ := I.cell x c (c1 x c e)
    exact ⟨v, o, hk _ _ ho, hd⟩
  · show (upd H s.heap.objs.size (.lst [])) C = none
    rw [upd_ne hCD]; exact hfC
  · intro x c e
    have z := I.freeC x c (c1 x c e)
    obtain ⟨v, o, ho, hd⟩ := I.cell x c (c1 x c e)
    show (upd H s.heap.objs.size (.lst [])) c = none
    rw [upd_ne (Nat.ne_of_lt (Heap.lt_size ho))]; exact z
  · intro p hp; cases hp
  · show (compσ own.length caps σ).length = (own ++ frees).length
    have hcl : caps.length = frees.length := by have := congrArg List.length hcap; simpa using this
    simp [compσ, hcl]
def NoOwn (ρ : Rho) : Prop := ∀ (i : Nat) (sl : Slot), ρ[i]? = some sl → sl.own = false
theorem Rep.rebase {K : PySem.W.Frag} {H₀ Hf₀ : Hp} {σ : St} {ρ : Rho} {H Hf H' : Hp} (R : Rep K H₀ Hf₀ σ ρ H Hf) (hn : NoOwn ρ) (hs : Same Hf H') : Rep K H' Hf σ ρ H' Hf where
  s0 := sameR
  sf := hs
  nf := fun _ _ e => .inl e
  f0 := sameR
  len := R.len
  fr := R.fr
  ow := fun i sl e o => by rw [hn i sl e] at o; cases o
  inj := fun i j sl sl' a e o => by rw [hn i sl e] at o; cases o
def KeepsNo (γ : FG) : Prop := ∀ d ρ ρ', γ d ρ = some ρ' → NoOwn ρ → NoOwn ρ'
theorem NoOwn.set {ρ : Rho} (h : NoOwn ρ) (i : Nat) (d : D) : NoOwn (ρ.set i (.fr d)) := fun j sl e => by
  rw [List.getElem?_set] at e
  split at e
  · split at e
    · cases e; rfl
    · cases e
  · exact h j sl e
theorem kn_name {i : Nat} : KeepsNo (nameG i) := fun d ρ ρ' e h => by cases e; exact h.set i d
def KeepsNoS (δ : FGs) : Prop := ∀ ds ρ ρ', δ ds ρ = some ρ' → NoOwn ρ → NoOwn ρ'
theorem kns_nil : KeepsNoS nilG := fun ds ρ ρ' e h => by
  cases ds with
  | nil => cases e; exact h
  | cons _ _ => cases e
theorem kns_cons {γ : FG} {δ : FGs} (h1 : KeepsNo γ) (h2 : KeepsNoS δ) : KeepsNoS (consG γ δ) := fun ds ρ ρ' e h => by
  cases ds with
  | nil => cases e
  | cons d r =>
    have e : (γ d ρ).bind (fun ρ' => δ r ρ') = some ρ' := e
    cases e1 : γ d ρ with
    | none => rw [e1] at e; cases e
    | some ρ1 => rw [e1] at e; exact h2 r ρ1 ρ' e (h1 d ρ ρ1 e1 h)
theorem kn_tup {n : Nat} {δ : FGs} (h : KeepsNoS δ) : KeepsNo (tupG n δ) := fun d ρ ρ' e hn => by
  unfold tupG at e
  split at e
  · split at e
    · exact h _ ρ ρ' e hn
    · cases e
  · cases e
theorem NoOwn.comp {n : Nat} {caps : List Nat} {ρ : Rho} : NoOwn (compS n caps ρ) := fun i sl e => by
  unfold compS at e
  by_cases h : i < n
  · rw [List.getElem?_append_left (by simpa using h), List.getElem?_replicate, if_pos h] at e
    cases e; rfl
  · rw [List.getElem?_append_right (by simpa using h), List.getElem?_map] at e
    cases q : caps[i - (List.replicate n Slot.no).length]? with
    | none => rw [q] at e; cases e
    | some j =>
      rw [q] at e
      cases e
      unfold capS
      split <;> rfl
theorem rep_comp {K : PySem.W.Frag} {H₀ Hf₀ : Hp} {σ : St} {ρ : Rho} {H Hf H' : Hp} {n : Nat} {caps : List Nat} (R : Rep K H₀ Hf₀ σ ρ H Hf) (hs : Same Hf H') : Rep K H' Hf (compσ n caps σ) (compS n caps ρ) H' Hf where
  s0 := sameR
  sf := hs
  nf := fun _ _ e => .inl e
  f0 := sameR
  len := by simp [compS, compσ]
  fr := fun i d e => by
    unfold compS at e
    unfold compσ
    by_cases h : i < n
    · rw [List.getElem?_append_left (by simpa using h), List.getElem?_replicate, if_pos h] at e
      cases e
    · rw [List.getElem?_append_right (by simpa using h), List.getElem?_map] at e ⊢
      simp only [List.length_replicate] at e ⊢
      cases q : caps[i - n]? with
      | none => rw [q] at e; cases e
      | some j =>
        rw [q] at e
        simp only [Option.map_some, Option.some.injEq] at e ⊢
        unfold capS at e
        split at e
        · cases e
          rename_i e
          obtain ⟨v, q1, q2⟩ := R.fr j d e
          exact ⟨v, by rw [List.getD_eq_getElem?_getD, q1]; rfl, q2⟩
        · cases e
  ow := fun i sl e o => by rw [NoOwn.comp i sl e] at o; cases o
  inj := fun i j sl sl' a e o => by rw [NoOwn.comp i sl e] at o; cases o
theorem Grows.trans {H Hf H1 Hf1 H2 Hf2 : Hp} (a : Grows H Hf H1 Hf1) (b : Grows H1 Hf1 H2 Hf2) : Grows H Hf H2 Hf2 :=
  ⟨a.h.trans b.h, a.f.trans b.f, b.fh, fun c o e => by
    rcases b.new c o e with q | q | q
    · exact a.new c o q
    · exact .inr (.inl (a.h.free q))
    · exact .inr (.inr q)⟩
theorem Rep.toGrows {K : PySem.W.Frag} {σ : St} {ρ : Rho} {H Hf H' Hf' : Hp} (R : Rep K H Hf σ ρ H' Hf') : Grows H Hf H' Hf' := ⟨R.s0, R.f0, R.sf, R.nf⟩
theorem compGo_cons {γ : FG} {ft : FT} {f : FE} {d : D} {ds ys : List D} {ρ : Rho} (h : compGo γ ft f (d :: ds) ρ = some ys) :
    ∃ ρ1 b, γ d ρ = some ρ1 ∧ ft ρ1 = some b ∧ ((b = true ∧ ∃ y r, f ρ1 = some y ∧ compGo γ ft f ds ρ1 = some r ∧ ys = y :: r) ∨ (b = false ∧ compGo γ ft f ds ρ1 = some ys)) := by
  unfold compGo at h
  cases e1 : γ d ρ with
  | none => rw [e1] at h; cases h
  | some ρ1 =>
    rw [e1] at h
    simp only [Option.bind_some] at h
    cases e2 : ft ρ1 with
    | none => rw [e2] at h; cases h
    | some b =>
      rw [e2] at h
      simp only [Option.bind_some] at h
      refine ⟨ρ1, b, rfl, e2, ?_⟩
      cases b with
      | false => exact .inr ⟨rfl, by simpa using h⟩
      | true =>
        simp only [if_true] at h
        cases e3 : f ρ1 with
        | none => rw [e3] at h; cases h
        | some y =>
          rw [e3] at h
          simp only [Option.bind_some] at h
          cases e4 : compGo γ ft f ds ρ1 with
          | none => rw [e4] at h; cases h
          | some r => rw [e4] at h; cases h; exact .inl ⟨rfl, y, r, rfl, rfl, rfl⟩
theorem comp_core {tg elt iter : Expr} {ifs : List Expr} {pos : Pos} {γ : FG} {ft : FT} {f : FE} {pins : List (Addr × Obj)} {s₂ : Shared} {σ : St} {H₂ Hf₂ H₀ Hf₀ : Hp} {ρ : Rho} {ds ys : List D} {J : It} {fp : List Addr} {it : Addr} {tn : Nat → Heap → Prop} {E : Value → Shared → Prop}
    (hc : X.calm = true) (S : CompScope X.env.scope scope own frees) (hcap : caps.map (fun j => X.N[j]?) = frees.map some) (kn : KeepsNo γ)
    (body : ∀ cl C s H fp, DG (cxC X scope cl C (own ++ frees) s H fp) tg γ ∧ DQ (cxC X scope cl C (own ++ frees) s H fp) ifs ft ∧ DE (cxC X scope cl C (own ++ frees) s H fp) elt f)
    (c1 : ∀ x c, cl.lookup x = some c → X.env.cells.lookup x = some c) (c2 : ∀ n, (n, NameKind.free) ∈ scope.names → ∃ c, cl.lookup n = some c)
    (I : Inv X pins σ H₂ s₂) (T : Turn X.prog X.w X.K tg J fp it tn) (st : tn 0 s₂.heap) (hfp : ∀ b ∈ fp, FpOk X pins H₂ b) (R : Rep X.K H₀ Hf₀ σ ρ H₂ Hf₂) (wk : Walks X.K Hf₂ J ds) (hz : ds.length ≤ sizeLine)
    (hgo : compGo γ ft f ds (compS own.length caps ρ) = some ys) {RR : Value → Addr → Result → Shared → Prop}
    (hRR : ∀ D C s' H' Hf' xs, Inv X pins σ H' s' → (∃ m, s'.heap.Ns C m) → FpOk X pins H' C → Grows H₂ Hf₂ H' Hf' → HasL X.K Hf' ys xs → H' D = some (.lst xs) → Hf' D = none → H₂ D = none → RR (.ref D) C (.ok .next) s') :
    wpAny (model X.prog X.w) X.A (newList []) (fun acc s₃ => wpAny (model X.prog X.w) X.A (newFunctionEnv scope X.env.globals cl [] X.env.qual none .none (some X.env)) (fun cenv s₄ =>
      codeAny (model X.prog X.w) X.A (.compStart (.ListComp elt [⟨tg, iter, ifs, 0⟩] scope pos) 0 (.ref it) acc { cenv with scope := relabel scope X.env }) (RR acc cenv.locals) s₄) E s₃) E s₂ := by
  have hfo : ∀ b ∈ fp, b < s₂.heap.objs.size := fun b hb => by
    obtain ⟨o, ho, _⟩ := T.obj 0 _ st b hb
    exact Heap.lt_size ho
  refine wpAny_newObj_type (wpAny_newFunctionEnv S.nocell (by intro y hy; simp at hy) (fun h₁ hns₁ hsb₁ => ?_) S.kind)
  dsimp only at hns₁ hsb₁ ⊢
  have hC : (s₂.heap.push { cls := .type "list", dict := none, data := .seq ([] : List Value).toArray }).objs.size = s₂.heap.objs.size + 1 := by rw [Heap.size_push]
  generalize hCe : (s₂.heap.push { cls := .type "list", dict := none, data := .seq ([] : List Value).toArray }).objs.size = C at hC hns₁ hsb₁ ⊢
  obtain ⟨b1, b2, b3⟩ := body cl C s₂ H₂ fp
  have hfD : H₂ s₂.heap.objs.size = none := I.hok.fresh (Nat.le_refl _)
  have IC : Inv (cxC X scope cl C (own ++ frees) s₂ H₂ fp) [] (compσ own.length caps σ) (upd H₂ s₂.heap.objs.size (.lst [])) { s₂ with heap := h₁, toks := s₂.toks + ([] : List (Str × Value)).length } :=
    cxC_inv I S hcap hfp hfo c1 c2 hC hns₁ hsb₁
  have DfD : Hf₂ s₂.heap.objs.size = none := R.sf.free hfD
  have R1 : Rep X.K (upd H₂ s₂.heap.objs.size (.lst [])) Hf₂ (compσ own.length caps σ) (compS own.length caps ρ) (upd H₂ s₂.heap.objs.size (.lst [])) Hf₂ := rep_comp R (R.sf.trans (same_upd hfD))
  have keep1 : ∀ b o, s₂.heap.get? b = some o → h₁.get? b = some o := fun b u e => (hsb₁.2 b (by rw [hC]; exact Nat.ne_of_lt (Nat.lt_succ_of_lt (Heap.lt_size e)))).trans (Heap.get?_push_of_some _ (Heap.get?_push_of_some _ e))
  have st1 : tn 0 h₁ := T.keep 0 _ _ st fun b _ o e => keep1 b o e
  -- what stays true of the iterator's objects through the loop
  have stat : ∀ {H' : Hp}, (∀ b ∈ fp, H' b = none) → ∀ b ∈ fp, FpOk (cxC X scope cl C (own ++ frees) s₂ H₂ fp) [] H' b := fun {H'} hn b hb => by
    refine ⟨hn b hb, Nat.ne_of_lt (Nat.lt_of_lt_of_le (hfo b hb) (by rw [hC]; exact Nat.le_succ _)), fun z => ?_, .inl hb, fun x c e => (hfp b hb).2.2.2.2.1 x c (c1 x c e), fun p hp => by cases hp⟩
    rcases List.mem_cons.mp (I.stkSub b z) with q | q
    · exact (hfp b hb).2.1 q
    · exact (hfp b hb).2.2.1 q
  have fp1 : ∀ b ∈ fp, (upd H₂ s₂.heap.objs.size (.lst [])) b = none := fun b hb => by
    rw [upd_ne (Nat.ne_of_lt (hfo b hb))]; exact (hfp b hb).1
  have loop : ∀ s₃ : Shared, s₃ = { s₂ with heap := h₁, toks := s₂.toks + ([] : List (Str × Value)).length } →
      codeAny (model X.prog X.w) X.A (.compLoop (.ListComp elt [⟨tg, iter, ifs, 0⟩] scope pos) 0 (.ref it) (.ref s₂.heap.objs.size) (compEnvC scope cl C X.env)) (RR (.ref s₂.heap.objs.size) C) s₃ := by
    rintro s₃ rfl
    refine compLoop_any (fun n s' => ∃ i ρ' σ' H' Hf' zs xs r, n = ds.length - i ∧ i ≤ ds.length ∧ Inv (cxC X scope cl C (own ++ frees) s₂ H₂ fp) [] σ' H' s' ∧ tn i s'.heap ∧ (∀ b ∈ fp, H' b = none) ∧ Rep X.K H' Hf' σ' ρ' H' Hf' ∧ NoOwn ρ' ∧
      compGo γ ft f (ds.drop i) ρ' = some r ∧ zs ++ r = ys ∧ HasL X.K Hf' zs xs ∧ zs.length ≤ i ∧ H' s₂.heap.objs.size = some (.lst xs) ∧ Hf' s₂.heap.objs.size = none ∧ Grows H₂ Hf₂ H' Hf') ?_ ds.length
      ⟨0, _, _, _, _, [], [], ys, by simp, Nat.zero_le _, IC, st1, fp1, R1, NoOwn.comp, by simpa using hgo, rfl, .nil, by simp, upd_same, DfD, ⟨same_upd hfD, sameR, R1.sf, fun b o e => .inl e⟩⟩
    rintro n s' ⟨i, ρ', σ', H', Hf', zs, xs, r, rfl, hi, I', st', fr', R', no', go', hys, hxs, hzl, hD', hfD', gr'⟩
    obtain ⟨w1, w2⟩ := wk H' Hf' gr'.f R'.sf i
    by_cases hil : i < ds.length
    · have hd : ds[i]? = some ds[i] := List.getElem?_eq_getElem hil
      obtain ⟨go, yld⟩ := w1 _ hd
      rw [List.drop_eq_getElem_cons hil] at go'
      obtain ⟨ρ1, b, eg, et, hb⟩ := compGo_cons go'
      refine wpAny_mono (T.item (cxC X scope cl C (own ++ frees) s₂ H₂ fp) rfl rfl rfl hc i [] s' σ' H' (fun _ _ => False) I' (stat fr') st' go) (fun rv s4 ⟨u, hr, h4⟩ => ?_) fun _ _ z => z
      subst hr
      refine wpAny_mono h4 (fun _ s5 ⟨x, H5, I5, r5, y5, st5, fr5⟩ => ?_) fun _ _ z => z
      obtain ⟨Hf5, gr5, hx5⟩ := yld x H5 y5
      have R5 : Rep X.K H' Hf' σ' ρ' H5 Hf5 := R'.grows gr5
      have I5' := I5.pinned (stat fr5) (T.obj _ _ st5)
      refine wpAny_mono (b1 _ s5 σ' H5 x u _ I5' r5 ⟨H', Hf', ρ', Hf5, ds[i], ρ1, R5, hx5, eg, fun σ6 H6 Hf6 R6 t6 => (⟨Hf6, R6, t6⟩ : ∃ Hf6, Rep X.K H' Hf' σ6 ρ1 H6 Hf6 ∧ Same Hf5 Hf6)⟩) (fun _ s6 h6 => ?_) fun _ _ z => z
      obtain ⟨σ6, H6, I6, Hf6, R6, t6⟩ := h6
      refine wpAny_mono (b2 _ s6 σ6 H6 (fun b' H7 => b' = b ∧ ∃ Hf7, Rep X.K H' Hf' σ6 ρ1 H7 Hf7) I6 ⟨H', Hf', ρ1, Hf6, b, R6, et, fun H7 Hf7 R7 s7 t7 => ⟨rfl, Hf7, R7⟩⟩) (fun ok s7 h7 => ?_) fun _ _ z => z
      obtain ⟨H7, I7, rfl, Hf7, R7⟩ := h7
      have no1 := kn _ _ _ eg no'
      have hm : ds.length - (i + 1) < ds.length - i := by omega
      rcases hb with ⟨rfl, y, r', ef, er, rfl⟩ | ⟨rfl, er⟩
      · rw [if_pos rfl]
        refine wpAny_mono (b3 _ s7 σ6 H7 (fun v H8 => ∃ Hf8, Rep X.K H' Hf' σ6 ρ1 H8 Hf8 ∧ Has X.K Hf8 y v) I7 ⟨H', Hf', ρ1, Hf7, y, R7, ef, fun v H8 Hf8 R8 s8 t8 h8 => ⟨Hf8, R8, h8⟩⟩) (fun u' s8 h8 => ?_) fun _ _ z => z
        obtain ⟨v, H8, I8, r8, Hf8, R8, h8⟩ := h8
        have hD8 : H8 s₂.heap.objs.size = some (.lst xs) := R8.s0 _ _ hD'
        have hfD8 : Hf8 s₂.heap.objs.size = none := by
          cases z : Hf8 s₂.heap.objs.size with
          | none => rfl
          | some o =>
            rcases R8.nf _ _ z with q | q | ⟨ks, rfl⟩
            · rw [hfD'] at q; cases q
            · rw [hD'] at q; cases q
            · have := hD8.symm.trans (R8.sf _ _ z); cases this
        have hsd : Same Hf8 (upd H8 s₂.heap.objs.size (.lst (xs ++ [v]))) := fun b o e => by rw [upd_ne (ne_of_none e hfD8)]; exact R8.sf b o e
        refine wpAny_mono (mt_append (X := cxC X scope cl C (own ++ frees) s₂ H₂ fp) _ s8 σ6 H8 (.ref s₂.heap.objs.size) [v] _ [u'] (fun _ H9 => H9 = upd H8 s₂.heap.objs.size (.lst (xs ++ [v]))) I8 rfl (.cons r8 .nil) ⟨_, xs, v, rfl, rfl, hD8, by have := hxs.length; omega, rfl⟩) (fun u9 s9 h9 => ?_) fun _ _ z => z
        obtain ⟨v9, H9, I9, _, rfl⟩ := h9
        refine ⟨_, hm, i + 1, ρ1, σ6, _, Hf8, zs ++ [y], xs ++ [v], r', rfl, hil, I9.unpinned, T.keep _ _ _ st5 fun b hb o e => (I9.pin (b, o) (List.mem_append_right _ (List.mem_append_right _ (mem_pinsAt hb e)))).1, fun b hb => ?_, R8.rebase no1 hsd, no1, er, by rw [List.append_assoc]; exact hys, (hxs.mono R8.f0).append (.cons h8 .nil), by simp; omega, upd_same, hfD8, ?_⟩
        · obtain ⟨o, e, d⟩ := T.obj _ _ st5 b hb
          exact (I9.pin (b, o) (List.mem_append_right _ (List.mem_append_right _ (mem_pinsAt hb e)))).2.1
        · have g8 := gr'.trans R8.toGrows
          exact ⟨fun b o e => by rw [upd_ne (ne_of_none e hfD)]; exact g8.h b o e, g8.f, hsd, g8.new⟩
      · rw [if_neg Bool.false_ne_true]
        refine ⟨_, hm, i + 1, ρ1, σ6, _, Hf7, zs, xs, r, rfl, hil, I7.unpinned, T.keep _ _ _ st5 fun b hb o e => (I7.pin (b, o) (List.mem_append_right _ (List.mem_append_right _ (mem_pinsAt hb e)))).1, fun b hb => ?_, R7.rebase no1 R7.sf, no1, er, hys, hxs.mono R7.f0, by omega, R7.s0 _ _ hD', ?_, gr'.trans R7.toGrows⟩
        · obtain ⟨o, e, d⟩ := T.obj _ _ st5 b hb
          exact (I7.pin (b, o) (List.mem_append_right _ (List.mem_append_right _ (mem_pinsAt hb e)))).2.1
        · cases z : Hf7 s₂.heap.objs.size with
          | none => rfl
          | some o =>
            rcases R7.nf _ _ z with q | q | ⟨ks, rfl⟩
            · rw [hfD'] at q; cases q
            · rw [hD'] at q; cases q
            · have := (R7.s0 _ _ hD').symm.trans (R7.sf _ _ z); cases this
    · have : ds.drop i = [] := List.drop_eq_nil_of_le (by omega)
      rw [this] at go'
      cases go'
      rw [List.append_nil] at hys
      subst hys
      refine wpAny_mono (T.done (cxC X scope cl C (own ++ frees) s₂ H₂ fp) rfl rfl rfl hc i [] s' σ' H' (fun _ _ => False) I' (stat fr') st' (w2 (by omega))) (fun rv s4 ⟨hr, I4⟩ => ?_) fun _ _ z => z
      subst hr
      obtain ⟨m, hn, _⟩ := I4.loc
      have hch : ∀ b ∈ fp, (b ∈ X.ex ∨ X.s₀.heap.objs.size ≤ b) ∧ b ≠ X.env.locals ∧ (∀ x c, X.env.cells.lookup x = some c → c ≠ b) ∧ ∀ p ∈ X.pn ++ pins, p.1 ≠ b := fun b hb => ⟨(hfp b hb).2.2.2.1, (hfp b hb).2.1, (hfp b hb).2.2.2.2.1, (hfp b hb).2.2.2.2.2⟩
      exact hRR _ C s4 H' Hf' xs (I.call' (s' := s4) I4.os I4.base I4.hok I4.bare hch) ⟨m, hn⟩ (I.fpOk (by rw [hC]; exact Nat.le_succ _) I4.free) gr' hxs hD' hfD' hfD
  exact codeAny_compStart_list (loop _ rfl) (T.self _ 0 _ _ _ st1 (loop _ rfl))
theorem compF_some {n : Nat} {fi : FA} {γ : FG} {ft : FT} {f : FE} {ρ : Rho} {ys : List D} (h : compF n caps fi γ ft f ρ = some ys) : ∃ ds, fi ρ = some ds ∧ ds.length ≤ sizeLine ∧ compGo γ ft f ds (compS n caps ρ) = some ys := by
  obtain ⟨ds, e1, e2⟩ := bindA_some h
  split at e2
  · exact ⟨ds, e1, by assumption, e2⟩
  · cases e2
theorem comp_cl {pins : List (Addr × Obj)} {σ : St} {H : Hp} {s : Shared} (I : Inv X pins σ H s) (S : CompScope X.env.scope scope own frees) : ∃ cl, closureFor scope X.env = pure cl ∧ (∀ x c, cl.lookup x = some c → X.env.cells.lookup x = some c) ∧ ∀ n, (n, NameKind.free) ∈ scope.names → ∃ c, cl.lookup n = some c := by
  obtain ⟨cl, e1, e2, _, e4⟩ := closeGo_ex (env := X.env) scope.names [] (fun n hn => I.ok.has n (S.free (n, .free) hn rfl)) (fun x c e => by simp at e)
  exact ⟨cl, closureFor_go e1, e2, e4⟩
theorem dn_comp {tg elt iter : Expr} {ifs : List Expr} {pos : Pos} {fi : FA} {γ : FG} {ft : FT} {f : FE} (hc : X.calm = true) (S : CompScope X.env.scope scope own frees) (hcap : caps.map (fun j => X.N[j]?) = frees.map some) (kn : KeepsNo γ) (hi : DI X tg iter fi)
    (body : ∀ cl C s H fp, DG (cxC X scope cl C (own ++ frees) s H fp) tg γ ∧ DQ (cxC X scope cl C (own ++ frees) s H fp) ifs ft ∧ DE (cxC X scope cl C (own ++ frees) s H fp) elt f)
    (hs : ∀ x, foldedSetIterable iter X.env x = pure x := by intro _; rfl) : DN X (.ListComp elt [⟨tg, iter, ifs, 0⟩] scope pos) (compF own.length caps fi γ ft f) := by
  intro pins s σ H Q I h
  obtain ⟨H₀, Hf₀, ρ, Hf, ys, R, q, k⟩ := h
  obtain ⟨ds, e1, hz, e2⟩ := compF_some q
  obtain ⟨cl, hcl, c1, c2⟩ := comp_cl I S
  rw [eval_ListComp]
  refine wpAny_comprehension_free (use := none) rfl hs hcl S.kind S.loc (thn (hi pins s σ H (fun J H' => ∃ Hf', Rep X.K H₀ Hf₀ σ ρ H' Hf' ∧ Same H H' ∧ Same Hf Hf' ∧ Walks X.K Hf' J ds) I ⟨H₀, Hf₀, ρ, Hf, ds, R, e1, fun J H' Hf' R' s' t' wk => ⟨Hf', R', s', t', wk⟩⟩) fun v s1 h1 => thn h1 fun itv s2 h2 => ?_)
  obtain ⟨it, fp, tn, J, H2, rfl, I2, T, st2, f2, Hf2, R2, s2', t2', wk⟩ := h2
  refine comp_core (RR := compPost (model X.prog X.w) X.A X.xe none (EP X pins σ Q)) hc S hcap kn body c1 c2 I2 T st2 f2 R2 wk hz e2 ?_
  intro D C s' H' Hf' xs I' hns hfC gr hxs hD hfD hD0
  obtain ⟨m, hn⟩ := hns
  refine ⟨m, hn, fun h' hsb => ⟨.ref D, H', ?_, rfl, ?_⟩⟩
  · obtain ⟨f0, f1, f2, f3, f4, f5⟩ := hfC
    exact I'.turned (t' := s'.toks) (fun b o hb e => (hsb.2 b hb).trans e) f0 f1 f3 f4 f5
  · exact k D xs H' Hf' (R2.grows gr) (s2'.trans gr.h) (t2'.trans gr.f) hxs hD hfD (s2'.free hD0)
theorem wp_asgComp {tg elt iter : Expr} {ifs : List Expr} {y : Str} {py pos spos : Pos} {fi : FA} {γ : FG} {ft : FT} {f : FE} (hc : X.calm = true) (S : CompScope X.env.scope scope own frees) (hcap : caps.map (fun j => X.N[j]?) = frees.map some) (kn : KeepsNo γ) (hi : DI X tg iter fi)
    (body : ∀ cl C s H fp, DG (cxC X scope cl C (own ++ frees) s H fp) tg γ ∧ DQ (cxC X scope cl C (own ++ frees) s H fp) ifs ft ∧ DE (cxC X scope cl C (own ++ frees) s H fp) elt f)
    (hsw : swapsWith (.ListComp elt [⟨tg, iter, ifs, 0⟩] scope pos) (some (.Name y py)) spos.line X.env = pure true) (i : Nat) (hN : X.N.Nodup) (hiN : X.N[i]? = some y) (hy : X.env.scope.names.lookup y = some .local)
    (hs : ∀ x, foldedSetIterable iter X.env x = pure x) : PS X (.Assign [.Name y py] (.ListComp elt [⟨tg, iter, ifs, 0⟩] scope pos) spos) (fun D' σ H => ∃ H₀ Hf₀ ρ Hf ys, Rep X.K H₀ Hf₀ σ ρ H Hf ∧ compF own.length caps fi γ ft f ρ = some ys ∧
      ∀ a xs H' Hf', Rep X.K H₀ Hf₀ σ ρ H' Hf' → Same H H' → Same Hf Hf' → HasL X.K Hf' ys xs → H' a = some (.lst xs) → Hf' a = none → H a = none → D'.nx (σ.set i (some (.ref a))) H') := by
  intro pins s σ H D' I h
  obtain ⟨H₀, Hf₀, ρ, Hf, ys, R, q, k⟩ := h
  obtain ⟨ds, e1, hz, e2⟩ := compF_some q
  obtain ⟨cl, hcl, c1, c2⟩ := comp_cl I S
  rw [exec_Assign_Name_used _ _ _ _ hsw]
  refine wpAny_bind (wpAny_standAt (wpAny_bind ?_))
  show wpAny _ X.A (do let _ ← comprehension (.ListComp elt [⟨tg, iter, ifs, 0⟩] scope pos) scope X.env _ (newList []) false (eval iter X.env) (some (assign (.Name y py) X.env))) _ _ s
  refine wpAny_bind (wpAny_mono (wpAny_comprehension_free (use := some (assign (.Name y py) X.env)) (Q := fun _ s' => SP X pins D' .next s') rfl hs hcl S.kind S.loc
    (thn (hi pins s σ H (fun J H' => ∃ Hf', Rep X.K H₀ Hf₀ σ ρ H' Hf' ∧ Same H H' ∧ Same Hf Hf' ∧ Walks X.K Hf' J ds) I ⟨H₀, Hf₀, ρ, Hf, ds, R, e1, fun J H' Hf' R' s' t' wk => ⟨Hf', R', s', t', wk⟩⟩) fun v s1 h1 => thn h1 fun itv s2 h2 => ?_)) (fun _ s' hq => wpAny_pure (wpAny_pure hq)) fun _ _ e => e)
  obtain ⟨it, fp, tn, J, H2, rfl, I2, T, st2, f2, Hf2, R2, s2', t2', wk⟩ := h2
  refine comp_core (RR := compPost (model X.prog X.w) X.A X.xe (some (assign (.Name y py) X.env)) (fun _ s' => SP X pins D' .next s')) hc S hcap kn body c1 c2 I2 T st2 f2 R2 wk hz e2 ?_
  intro D C s' H' Hf' xs I' hns hfC gr hxs hD hfD hD0
  obtain ⟨m, hn⟩ := hns
  show wpAny _ X.A (assign (.Name y py) X.env (.ref D)) _ _ _
  refine wpAny_assign_Name (store_ok2 I' hN hiN (.inl hy) (show RelV (.ref D) (.ref D) from rfl) (fun s'' I'' hsb => ?_) (.inr hy))
  obtain ⟨a, hsb, ha⟩ := hsb
  obtain ⟨f0, f1, f2', f3, f4, f5⟩ := hfC
  have haC : a ≠ C := by
    rcases ha with z | z
    · rw [z]; exact Ne.symm f1
    · exact f4 _ _ z
  refine ⟨m, hn.sameBut hsb (Ne.symm haC), fun h' hsb' => ?_⟩
  exact ⟨_, H', I''.turned (t' := s''.toks) (fun b o hb e => (hsb'.2 b hb).trans e) f0 f1 f3 f4 f5, k D xs H' Hf' (R2.grows gr) (s2'.trans gr.h) (t2'.trans gr.f) hxs hD hfD (s2'.free hD0)⟩
end
end FL
set_option Elab.async false
set_option linter.all false
set_option maxRecDepth 100000
set_option maxHeartbeats 4000000
namespace FL
open PySem PySem.Spec PyProof.Rows L2
section
variable {prog : Program} {w : World} {A : Around} {E : Value → Shared → Prop} {s : Shared}
end
theorem FpOk.none' {X : Cx} {pins : List (Addr × Obj)} {H H' : Hp} {b : Addr} (f : FpOk X pins H b) (h : H' b = none) : FpOk X pins H' b := ⟨h, f.2⟩
end FL
set_option Elab.async false
set_option linter.all false
set_option maxRecDepth 100000
set_option maxHeartbeats 4000000
namespace FL
open PySem PySem.Spec PyProof.Rows L2
theorem turned1 {X : Cx} {pins : List (Addr × Obj)} {σ : St} {H : Hp} {s : Shared} {h' : Heap} {t' : Nat} {b : Addr} (I : Inv X pins σ H s) (hs : Heap.SameBut b s.heap h') (f : FpOk X pins H b) : Inv X pins σ H { s with heap := h', toks := t' } := by
  obtain ⟨f0, f1, f2, f3, f4, f5⟩ := f
  exact I.turned (t' := t') (fun c o hb q => (hs.2 c hb).trans q) f0 f1 f3 f4 f5
section
variable {P : Program} {w : World} {K : PySem.W.Frag} {J1 J2 : It} {fp1 fp2 : List Addr} {i1 i2 z TI TO : Addr} {tn1 tn2 : Nat → Heap → Prop}
end
end FL
set_option Elab.async false
set_option linter.all false
set_option maxRecDepth 100000
set_option maxHeartbeats 4000000
namespace FL
open PySem PySem.Spec PyProof.Rows L2
section
variable {prog : Program} {w : World} {A : Around} {E : Value → Shared → Prop} {s : Shared}
end
end FL
set_option Elab.async false
set_option linter.all false
set_option maxRecDepth 100000
set_option maxHeartbeats 4000000
namespace FL
open PySem PySem.Spec PyProof.Rows L2
theorem walks_list {K : PySem.W.Frag} {Hf : Hp} {a : Addr} {xs : List V} {ds : List D} (qa : SqL K Hf a xs) (la : HasL K Hf ds xs) : Walks K Hf (Itl K a) ds := fun H2 Hf2 t2 sf2 i => by
  refine ⟨fun d hd => ?_, fun hle => ⟨xs, sf2.seq (t2.seq qa), by rw [la.length]; exact hle⟩⟩
  obtain ⟨v, e3, e4⟩ := la.get hd
  have sq : SqL K H2 a xs := sf2.seq (t2.seq qa)
  refine ⟨⟨xs, v, sq, e3⟩, fun x H3 hy => ?_⟩
  obtain ⟨rfl, hy⟩ := hy
  have := hy xs sq
  rw [e3] at this
  cases this
  exact ⟨Hf2, Grows.refl sf2, e4.mono t2⟩
theorem walks_tup {K : PySem.W.Frag} {Hf : Hp} {a : Addr} {xs : List V} {ds : List D} (qa : SqT K Hf a xs) (la : HasL K Hf ds xs) : Walks K Hf (Itt K a) ds := fun H2 Hf2 t2 sf2 i => by
  refine ⟨fun d hd => ?_, fun hle => ⟨xs, sameT sf2 (sameT t2 qa), by rw [la.length]; exact hle⟩⟩
  obtain ⟨v, e3, e4⟩ := la.get hd
  have sq : SqT K H2 a xs := sameT sf2 (sameT t2 qa)
  refine ⟨⟨xs, v, sq, e3⟩, fun x H3 hy => ?_⟩
  obtain ⟨rfl, hy⟩ := hy
  have := hy xs sq
  rw [e3] at this
  cases this
  exact ⟨Hf2, Grows.refl sf2, e4.mono t2⟩
section
variable {X : Cx} {e e1 e2 : Expr} {f f1 f2 : FE} {pos : Pos} {elts : List Expr} {kx : Nat} {tp : Pos}
theorem fp_new {pins : List (Addr × Obj)} {σ : St} {H : Hp} {s : Shared} (I : Inv X pins σ H s) {b : Addr} (hb : s.heap.objs.size ≤ b) : FpOk X pins H b := I.fpOk hb (I.hok.fresh hb)
end
end FL
set_option Elab.async false
set_option linter.all false
set_option maxRecDepth 100000
set_option maxHeartbeats 4000000
namespace FL
open PySem PySem.Spec PyProof.Rows L2
section
variable {prog : Program} {w : World} {A : Around} {E : Value → Shared → Prop} {s : Shared}
theorem getItem_tuple_all {t sl : Addr} {items : Array Value} {vl vu : Value} {lo hi : Option Int} {Q : Value → Shared → Prop} (ht : IsTup s.heap t items) (hs : s.heap.IsSliceOf sl vl vu .none) (pl : IsPart vl lo) (pu : IsPart vu hi)
    (hw : HT.sIx items.size 0 lo = 0 ∧ HT.sIx items.size items.size hi = items.size) (h : Q (.ref t) s) : wpAny (model prog w) A (getItem (.ref t) (.ref sl)) Q E s := by
  obtain ⟨os, hos, hcs, hds⟩ := id hs
  have hTs : s.TypeIs (.ref sl) "slice" := ⟨os, hos, hcs⟩
  unfold getItem
  try with_reducible refine wpAny_holding ?_
  first | refine wpAny_bind (wpAny_pure ?_) | skip
  refine wpAny_bind (wpAny_sequenceKey ht.typeIs (by decide) ?_)
  refine wpAny_bind (wpAny_callSpecial?_slot (name := Str.ofString "__getitem__") ht.typeIs PyProof.Rows.slot_tuple_getitem
    (wpAny_call_entry PyProof.Rows.slot_tuple_getitem ht.typeIs entry_tuple_getitem ?_ (args_tuple_getitem _ _)))
  show wpAny _ _ (Builtin.Tuple.tupleItemsOf (.ref t) >>= _) _ _ s
  refine wpAny_bind (tupleItemsOf_ ht ?_)
  refine wpAny_bind (wpAny_typeOf hTs ?_)
  rw [if_pos (by decide)]
  refine wpAny_bind (HT.sliceApplied_gen hs pl pu ?_)
  rw [hw.1, hw.2]
  show wpAny _ _ (if (((0 : Nat) : Int) == 0 && (1 : Int) == 1 && (items.size - 0) == items.size) = true then _ else _) _ _ s
  rw [if_pos (by simp)]
  show wpAny _ _ (Builtin.Tuple.tupleIsExact (.ref t) >>= _) _ _ s
  unfold Builtin.Tuple.tupleIsExact
  refine wpAny_bind (wpAny_bind (wpAny_typeOf ht.typeIs (wpAny_pure ?_)))
  rw [if_pos (by decide)]
  refine wpAny_bind (wpAny_rule ?_)
  exact wpAny_pure ⟨_, rfl, wpAny_pure h⟩
theorem adjust_rev (n : Nat) : Builtin.Slice.sliceAdjust none none (-1) (n : Int) = ((n : Int) - 1, -1) := by
  unfold Builtin.Slice.sliceAdjust
  simp
theorem places_rev (n : Nat) : Builtin.Slice.slicePlaces ((n : Int) - 1) (-1) (-1) = n := by
  unfold Builtin.Slice.slicePlaces
  have h1 : ¬ ((-1 : Int) > 0) := by omega
  simp only [h1, if_false]
  split <;> simp <;> omega
theorem sliceApplied_rev {sl : Addr} {t : Tok} {n : Nat} {Q : Int × Int × Nat → Shared → Prop} (hs : s.heap.IsSliceOf sl .none .none (.int (-1) t)) (h : Q ((n : Int) - 1, -1, n) s) : wpAny (model prog w) A (Builtin.Slice.sliceApplied (.ref sl) (pure (n : Int))) Q E s := by
  obtain ⟨os, hos, hcs, hds⟩ := id hs
  unfold Builtin.Slice.sliceApplied Builtin.Slice.sliceFields
  refine wpAny_bind (wpAny_bind (wpAny_field hos hds (x := .none) rfl (wpAny_bind (wpAny_field hos hds (x := .none) rfl (wpAny_bind (wpAny_field hos hds (x := .int (-1) t) rfl (wpAny_pure ?_)))))))
  refine wpAny_bind (slicePart_int ?_)
  show wpAny _ _ (if ((-1 : Int) == 0) = true then _ else _) _ _ s
  rw [if_neg (by decide)]
  refine wpAny_bind (slicePart_none (wpAny_bind (slicePart_none (wpAny_bind (wpAny_pure ?_)))))
  show wpAny _ _ (match Builtin.Slice.sliceAdjust none none (-1) (n : Int) with | (lo, hi) => pure (lo, (-1 : Int), Builtin.Slice.slicePlaces lo hi (-1))) _ _ s
  rw [adjust_rev n]
  show wpAny _ _ (pure ((n : Int) - 1, (-1 : Int), Builtin.Slice.slicePlaces ((n : Int) - 1) (-1) (-1))) _ _ s
  rw [places_rev]
  exact wpAny_pure h
theorem pick_rev (xs : Array Value) : ((List.range xs.size).filterMap fun (m : Nat) => xs[(((xs.size : Nat) : Int) - 1 + (m : Int) * (-1)).toNat]?).toArray = xs.toList.reverse.toArray := by
  have e : ((List.range xs.size).filterMap fun (m : Nat) => xs[(((xs.size : Nat) : Int) - 1 + (m : Int) * (-1)).toNat]?) = xs.toList.reverse := by
    apply List.ext_getElem?
    intro i
    have f : (List.range xs.size).filterMap (fun (m : Nat) => xs[(((xs.size : Nat) : Int) - 1 + (m : Int) * (-1)).toNat]?) = (List.range xs.size).map (fun (m : Nat) => xs.toList.reverse.getD m .none) := by
      have gen : ∀ l : List Nat, (∀ m ∈ l, m < xs.size) → l.filterMap (fun (m : Nat) => xs[(((xs.size : Nat) : Int) - 1 + (m : Int) * (-1)).toNat]?) = l.map (fun (m : Nat) => xs.toList.reverse.getD m .none) := by
        intro l
        induction l with
        | nil => intro _; rfl
        | cons m l ih =>
          intro hl
          have hm' : m < xs.size := hl m List.mem_cons_self
          have : (((xs.size : Nat) : Int) - 1 + (m : Int) * (-1)).toNat = xs.size - 1 - m := by omega
          have h2 : xs.size - 1 - m < xs.size := by omega
          rw [List.filterMap_cons, this, Array.getElem?_eq_getElem h2, List.map_cons, ih fun k hk => hl k (List.mem_cons_of_mem _ hk)]
          simp [List.getD_eq_getElem?_getD, List.getElem?_reverse, hm']
      exact gen _ fun m hm => by simpa using hm
    rw [f, List.getElem?_map]
    by_cases hi : i < xs.size
    · rw [List.getElem?_range hi]
      simp [List.getD_eq_getElem?_getD, List.getElem?_reverse, hi]
    · rw [List.getElem?_eq_none (by simpa using hi), List.getElem?_eq_none (by simp; omega)]
      rfl
  rw [e]
theorem getItem_tuple_rev {t sl : Addr} {tk : Tok} {items : Array Value} {Q : Value → Shared → Prop} (ht : IsTup s.heap t items) (hs : s.heap.IsSliceOf sl .none .none (.int (-1) tk))
    (h : Q (.ref s.heap.objs.size) { s with heap := s.heap.push { cls := .type "tuple", data := .seq items.toList.reverse.toArray } }) (hsz : items.size ≤ sizeLine) : wpAny (model prog w) A (getItem (.ref t) (.ref sl)) Q E s := by
  have hrev : sizeOk (.seq items.toList.reverse.toArray) := by
    show items.toList.reverse.toArray.size ≤ sizeLine
    simpa using hsz
  obtain ⟨os, hos, hcs, hds⟩ := id hs
  have hTs : s.TypeIs (.ref sl) "slice" := ⟨os, hos, hcs⟩
  unfold getItem
  try with_reducible refine wpAny_holding ?_
  first | refine wpAny_bind (wpAny_pure ?_) | skip
  refine wpAny_bind (wpAny_sequenceKey ht.typeIs (by decide) ?_)
  refine wpAny_bind (wpAny_callSpecial?_slot (name := Str.ofString "__getitem__") ht.typeIs PyProof.Rows.slot_tuple_getitem
    (wpAny_call_entry PyProof.Rows.slot_tuple_getitem ht.typeIs entry_tuple_getitem ?_ (args_tuple_getitem _ _)))
  show wpAny _ _ (Builtin.Tuple.tupleItemsOf (.ref t) >>= _) _ _ s
  refine wpAny_bind (tupleItemsOf_ ht ?_)
  refine wpAny_bind (wpAny_typeOf hTs ?_)
  rw [if_pos (by decide)]
  refine wpAny_bind (sliceApplied_rev hs ?_)
  show wpAny _ _ (if ((((items.size : Nat) : Int) - 1) == 0 && (-1 : Int) == 1 && items.size == items.size) = true then _ else _) _ _ s
  rw [if_neg (by simp), pick_rev]
  first
    | exact wpAny_bind (m := Builtin.Tuple.tupleExact _) (wpAny_newObj_type (wpAny_pure ⟨_, rfl, wpAny_pure h⟩) hrev)
    | exact wpAny_bind (m := Builtin.Tuple.tupleExact _) (wpAny_newObj_type (wpAny_bind (wpAny_pure (wpAny_pure ⟨_, rfl, wpAny_pure h⟩))) hrev)
    | exact wpAny_bind (wpAny_bind (m := Builtin.Tuple.tupleExact _) (wpAny_newObj_type (wpAny_pure (wpAny_pure ⟨_, rfl, wpAny_pure h⟩)) hrev))
    | exact wpAny_bind (wpAny_bind (m := Builtin.Tuple.tupleExact _) (wpAny_newObj_type (wpAny_pure ⟨_, rfl, wpAny_pure h⟩) hrev))
open PySem.AutoSeq1 (wpAny_loadPart') in
theorem tuple_addW0 (l b : Addr) (items2 : Array Value) (n n2 : Nat) (dd dd2 : Option Addr) (sl sl2 : Array (Option Value)) :
    Meets (Builtin.«tuple.__add__» ⟨[.ref l, .ref b], []⟩) (fun _ R s => s.heap.get? l = some { cls := .type "tuple", dict := dd, data := .seq #[] n, slots := sl } ∧ s.heap.get? b = some { cls := .type "tuple", dict := dd2, data := .seq items2 n2, slots := sl2 } ∧ R (.ok (.ret (.ref b))) s) :=
  .of_wp fun prog w A R s h => by
    obtain ⟨hp, g, d, tk, os⟩ := s; obtain ⟨hl, hb, h⟩ := h
    have f2 := AutoSeq1.sub_tuple_tuple
    wp_walk using wpAny_loadPart' hl, wpAny_loadPart' hb
    exact ⟨_, rfl, h⟩
theorem cat_tup0 {t b : Addr} {ws : List Value} {Q : Value → Shared → Prop} (ht : IsTup s.heap t #[]) (hb : IsTup s.heap b ws.toArray) (h : Q (.ref b) s) : wpAny (model prog w) A (binaryOp .Add (.ref t) (.ref b)) Q E s := by
  obtain ⟨⟨cls, dd, data, sl⟩, ho, hc, n, hd⟩ := id ht
  obtain ⟨⟨cls2, dd2, data2, sl2⟩, ho2, hc2, n2, hd2⟩ := id hb
  simp only at hc hd hc2 hd2
  subst hc hd hc2 hd2
  exact concat_meets ⟨_, ho, rfl⟩ ⟨_, ho2, rfl⟩ noFill_tuple_add seq_tuple_add PySem.F.slot_tuple_add PySem.F.entry_tuple_add (PySem.F.args_tuple_add_2 _ _) (tuple_addW0 t b ws.toArray n n2 dd dd2 sl sl2) ⟨ho, ho2, h⟩
end
end FL
set_option Elab.async false
set_option linter.all false
set_option maxRecDepth 100000
set_option maxHeartbeats 4000000
namespace FL
open PySem PySem.Spec PyProof.Rows L2
section
variable {X : Cx}
def rCatTG (K : PySem.W.Frag) : R2 := fun x y H Q => ∃ a b xs ys, x = .ref a ∧ y = .ref b ∧ SqT K H a xs ∧ SqT K H b ys ∧ xs.length + ys.length ≤ sizeLine ∧
  (xs = [] → Q (.ref b) H) ∧ (xs ≠ [] → ys = [] → Q (.ref a) H) ∧ (xs ≠ [] → ys ≠ [] → ∀ p, H p = none → Q (.ref p) (upd H p (.tup (xs ++ ys))))
theorem op_catTG : OpR X (binaryOp .Add) (rCatTG X.K) := by
  intro pins s σ H x y v u Q I rx ry h
  obtain ⟨a, b, xs, ys, rfl, rfl, ha, hb, hz, q0, q1, q2⟩ := h
  by_cases hx : xs = []
  · subst hx
    cases rx
    cases ry
    obtain ⟨its, r1, p1, _⟩ := I.tuple ha
    obtain ⟨its2, r2, p2, _⟩ := I.tuple hb
    cases r1
    exact cat_tup0 p1 p2 ⟨.ref b, H, I, rfl, q0 rfl⟩
  · exact op_catT pins s σ H _ _ v u Q I rx ry ⟨a, b, xs, ys, rfl, rfl, ha, hb, hx, hz, q1 hx, q2 hx⟩
def rCatLG (K : PySem.W.Frag) : R2 := fun x y H Q => ∃ a b xs ys, x = .ref a ∧ y = .ref b ∧ SqL K H a xs ∧ SqL K H b ys ∧ xs.length + ys.length ≤ sizeLine ∧ ∀ p, H p = none → Q (.ref p) (upd H p (.lst (xs ++ ys)))
theorem op_catLG : OpR X (binaryOp .Add) (rCatLG X.K) := by
  intro pins s σ H x y v u Q I rx ry h
  obtain ⟨a, b, xs, ys, rfl, rfl, ha, hb, hz, q⟩ := h
  cases rx
  cases ry
  obtain ⟨its, r1, p1, _⟩ := I.list ha
  obtain ⟨its2, r2, p2, _⟩ := I.list hb
  obtain ⟨⟨cls, dd, data, sl⟩, ho, hc, n, hd⟩ := id p1.isList
  obtain ⟨⟨cls2, dd2, data2, sl2⟩, ho2, hc2, n2, hd2⟩ := id p2.isList
  simp only at hc hd hc2 hd2
  subst hc hd hc2 hd2
  have e : its.toArray ++ its2.toArray = (its ++ its2).toArray := by simp
  have hsz : its.toArray.size + its2.toArray.size ≤ sizeLine := by
    rw [List.size_toArray, List.size_toArray, ← r1.length, ← r2.length]; exact hz
  refine concat_meets ⟨_, ho, rfl⟩ ⟨_, ho2, rfl⟩ noFill_list_add seq_list_add PySem.F.slot_list_add PySem.F.entry_list_add (PySem.F.args_list_add_2 _ _) (list_addW a b its.toArray its2.toArray n n2 dd dd2 sl sl2 hsz) ⟨ho, ho2, ?_⟩
  rw [e]
  exact ⟨.ref _, _, I.lnew (t' := s.toks) (r1.append r2) (by rw [List.length_append]; exact hz), rfl, q _ I.fresh⟩
def rAddX (K : PySem.W.Frag) : R2 := fun x y H Q => rI0 (fun i j => .int (i + j)) x y H Q ∨ (∃ i j, x = .str i ∧ y = .str j ∧ i.length + j.length ≤ sizeLine ∧ Q (.str (i ++ j)) H) ∨ rCatTG K x y H Q ∨ rCatLG K x y H Q
theorem op_addX : OpR X (binaryOp .Add) (rAddX X.K) := op_add.or (op_add_str.or (op_catTG.or op_catLG))
def addX : D → D → Option D
  | .int i, .int j => some (.int (i + j))
  | .str x, .str y => if x.length + y.length ≤ sizeLine then some (.str (x ++ y)) else none
  | .tup xs, .tup ys => if xs.length + ys.length ≤ sizeLine then some (.tup (xs ++ ys)) else none
  | .lst xs, .lst ys => if xs.length + ys.length ≤ sizeLine then some (.lst (xs ++ ys)) else none
  | _, _ => none
theorem HasL.nil_of {K : PySem.W.Frag} {H : Hp} {ds : List D} {xs : List V} (h : HasL K H ds xs) : xs = [] ↔ ds = [] := by
  have := h.length
  constructor
  · intro e; subst e; exact List.eq_nil_of_length_eq_zero this.symm
  · intro e; subst e; exact List.eq_nil_of_length_eq_zero this
theorem HasR.tupF {K : PySem.W.Frag} {Hf : Hp} {σ : St} {ρ : Rho} {ds : List D} {v : V} (h : HasR K Hf σ ρ (.tup ds) v) : Has K Hf (.tup ds) v := by
  rcases h with h | ⟨_, _, e, _⟩
  · exact h
  · cases e
theorem opD_addX : OpD X (rAddX X.K) addX := by
  intro σ ρ H₀ Hf₀ H Hf x y dx dy d Q R hx hy hφ k
  unfold addX at hφ
  split at hφ
  · cases hφ
    exact .inl ⟨_, _, hx.int, hy.int, k _ _ _ R sameR sameR (Has.int_iff.mpr rfl)⟩
  · split at hφ
    · cases hφ
      exact .inr (.inl ⟨_, _, hx.str, hy.str, by assumption, k _ _ _ R sameR sameR (Has.str_iff.mpr rfl)⟩)
    · cases hφ
  · split at hφ
    · cases hφ
      rename_i xs ys hz
      obtain ⟨a, vs, rfl, qa, la⟩ := hx.tup R
      obtain ⟨b, ws, rfl, qb, lb⟩ := hy.tup R
      refine .inr (.inr (.inl ⟨a, b, vs, ws, rfl, rfl, qa, qb, by rw [la.length, lb.length]; exact hz, fun e => ?_, fun _ e => ?_, fun _ _ p hp => ?_⟩))
      · cases la.nil_of.mp e
        exact k _ _ _ R sameR sameR (by rw [List.nil_append]; exact hy.tupF)
      · cases lb.nil_of.mp e
        exact k _ _ _ R sameR sameR (by rw [List.append_nil]; exact hx.tupF)
      · have sm := same_upd (o := .tup (vs ++ ws)) (R.sf.free hp)
        exact k _ _ _ (R.lay hp) (same_upd hp) sm (Has.tup_iff.mpr ⟨p, _, rfl, SqT.of upd_same, (la.append lb).mono sm⟩)
    · cases hφ
  · split at hφ
    · cases hφ
      rename_i xs ys hz
      obtain ⟨a, vs, rfl, qa, la⟩ := hx.lst R
      obtain ⟨b, ws, rfl, qb, lb⟩ := hy.lst R
      refine .inr (.inr (.inr ⟨a, b, vs, ws, rfl, rfl, qa, qb, by rw [la.length, lb.length]; exact hz, fun p hp => ?_⟩))
      have sm := same_upd (o := .lst (vs ++ ws)) (R.sf.free hp)
      exact k _ _ _ (R.lay hp) (same_upd hp) sm (Has.lst_iff.mpr ⟨p, _, rfl, SqL.of upd_same, (la.append lb).mono sm⟩)
    · cases hφ
  · cases hφ
variable {a b c e : Expr} {f g h : FE} {pos p2 : Pos}
theorem d_addX (ha : DR X a f) (hb : DR X b g) : DE X (.BinOp a .Add b pos) (bind2 addX f g) := d_op op_addX opD_addX ha hb
abbrev FP := Rho → Option (Option Int)
def noP : FP := fun _ => some none
def exP (f : FE) : FP := fun ρ => (f ρ).bind fun | .int i => some (some i) | _ => none
def tP (K : PySem.W.Frag) (f : FP) : TO := fun σ H Q => ∃ H₀ Hf₀ ρ Hf o, Rep K H₀ Hf₀ σ ρ H Hf ∧ f ρ = some o ∧ ∀ H' Hf', Rep K H₀ Hf₀ σ ρ H' Hf' → Same H H' → Same Hf Hf' → Q o H'
def DP (X : Cx) (e : Option Expr) (f : FP) : Prop := PO X e (tP X.K f)
theorem po_imp {e : Option Expr} {t t' : TO} (h : PO X e t) (i : ∀ σ H Q, t' σ H Q → t σ H Q) : PO X e t' := fun pins s σ H Q I hw => h pins s σ H Q I (i _ _ _ hw)
theorem dp_no : DP X none noP := po_imp po_none fun σ H Q ⟨H₀, Hf₀, ρ, Hf, d, R, q, k⟩ => by cases q; exact k _ _ R sameR sameR
theorem dp_ex (h : DR X e f) : DP X (some e) (exP f) := po_imp (po_some h) fun σ H Q ⟨H₀, Hf₀, ρ, Hf, d, R, q, k⟩ => by
  obtain ⟨x, e1, e2⟩ := bindV_some q
  cases x <;> try cases e2
  exact ⟨H₀, Hf₀, ρ, Hf, _, R, e1, fun v H1 Hf1 R1 s1 t1 h1 => ⟨_, h1.int, k _ _ R1 s1 t1⟩⟩
def cutL {α : Type} (xs : List α) (lo hi : Option Int) : List α := (xs.drop (HT.sIx xs.length 0 lo)).take (HT.sIx xs.length xs.length hi - HT.sIx xs.length 0 lo)
theorem HasL.cut {K : PySem.W.Frag} {H : Hp} {ds : List D} {xs : List V} (h : HasL K H ds xs) (lo hi : Option Int) : HasL K H (cutL ds lo hi) (cutV xs lo hi) := by
  unfold cutL cutV
  rw [h.length]
  exact (h.drop _).take _
def rSlTG (K : PySem.W.Frag) : V → Option Int → Option Int → Hp → VK → Prop := fun x lo hi H Q => ∃ a xs, x = .ref a ∧ SqT K H a xs ∧
  ((HT.sIx xs.length 0 lo = 0 ∧ HT.sIx xs.length xs.length hi = xs.length) → Q (.ref a) H) ∧ (¬ (HT.sIx xs.length 0 lo = 0 ∧ HT.sIx xs.length xs.length hi = xs.length) → ∀ p, H p = none → Q (.ref p) (upd H p (.tup (cutV xs lo hi))))
theorem sl_tupG : SlR X (rSlTG X.K) := by
  intro pins s σ H x v vl vu lo hi sl Q I rx hs pl pu h
  obtain ⟨a, xs, rfl, hx, q1, q2⟩ := h
  by_cases hw : HT.sIx xs.length 0 lo = 0 ∧ HT.sIx xs.length xs.length hi = xs.length
  · cases rx
    obtain ⟨its, r, ht, hz⟩ := I.tuple hx
    have hlen : its.toArray.size = xs.length := by rw [List.size_toArray]; exact r.length.symm
    refine ⟨"tuple", _, PyProof.Rows.slot_tuple_getitem.lookup, ht.typeIs, ?_⟩
    exact getItem_tuple_all ht hs pl pu (by rw [hlen]; exact hw) ⟨.ref a, H, I, rfl, q1 hw⟩
  · exact sl_tup pins s σ H _ v vl vu lo hi sl Q I rx hs pl pu ⟨a, xs, rfl, hx, hw, q2 hw⟩
def sliceF (f : FE) (l u : FP) : FE := fun ρ => (f ρ).bind fun x => (l ρ).bind fun lo => (u ρ).bind fun hi => match x with
  | .tup ds => some (.tup (cutL ds lo hi))
  | .lst ds => some (.lst (cutL ds lo hi))
  | _ => none
theorem cut_whole {ds : List D} {lo hi : Option Int} (h : HT.sIx ds.length 0 lo = 0 ∧ HT.sIx ds.length ds.length hi = ds.length) : cutL ds lo hi = ds := by
  unfold cutL
  rw [h.1, h.2]
  simp
def rRev (K : PySem.W.Frag) : V → Hp → VK → Prop := fun x H Q => ∃ a xs, x = .ref a ∧ ((SqT K H a xs ∧ ∀ p, H p = none → Q (.ref p) (upd H p (.tup xs.reverse))) ∨ (SqL K H a xs ∧ ∀ p, H p = none → Q (.ref p) (upd H p (.lst xs.reverse))))
theorem slicePick_rev (its : List Value) : slicePick its.toArray none none (some (-1)) = its.reverse.toArray := by
  have := pick_rev its.toArray
  have hb : sliceBounds none none (some (-1)) its.toArray.size = (((its.toArray.size : Nat) : Int) - 1, -1, -1) := by
    unfold sliceBounds
    simp
  unfold slicePick
  rw [hb]
  show ((sliceRange (((its.toArray.size : Nat) : Int) - 1) (-1) (-1)).filterMap (its.toArray[·]?)).toArray = _
  have hr : sliceRange (((its.toArray.size : Nat) : Int) - 1) (-1) (-1) = (List.range its.toArray.size).map fun (k : Nat) => (((its.toArray.size : Nat) : Int) - 1 + (k : Int) * (-1)).toNat := by
    unfold sliceRange
    have h1 : ¬ ((-1 : Int) > 0) := by omega
    simp only [h1, if_false]
    have hc : (if ((its.toArray.size : Nat) : Int) - 1 > -1 then (((its.toArray.size : Nat) : Int) - 1 - -1 - -1 - 1) / (- -1) else 0).toNat = its.toArray.size := by
      have h1' : (- -1 : Int) = 1 := rfl
      rw [h1', Int.ediv_one]
      split <;> omega
    rw [hc]
    congr 1
    funext k
    congr 1
    omega
  rw [hr, List.filterMap_map]
  exact this
section
variable {X : Cx} {a b c e st : Expr} {f g h fs : FE} {pos p2 : Pos}
theorem pe_rev {te ts : TE} (he : PE X e te) (hst : PE X st ts) : PE X (.Subscript e (.Slice none none (some st) p2) pos) (fun σ H Q => te σ H fun x H1 => ts σ H1 fun y H2 => y = .int (-1) ∧ rRev X.K x H2 Q) := by
  intro pins s σ H Q I h
  refine Subscript_ (thn (he pins s σ H _ I h) fun v s1 ⟨x, H1, I1, r1, q1⟩ => ?_)
  refine wpAny_Slice ?_
  rw [evalPart_none]
  refine wpAny_pure ?_
  refine wpAny_pure ?_
  rw [evalPart_some]
  refine thn (hst pins s1 σ H1 _ I1 q1) fun vs s3 ⟨y, H3, I3, ry, e1, a, xs, ex, q3⟩ => ?_
  subst e1
  subst ex
  obtain ⟨t, rfl⟩ := ry
  cases r1
  have I4 : Inv X pins σ H3 { s3 with heap := s3.heap.push { cls := .type "slice", data := .fields #[.none, .none, .int (-1) t] } } := I3.kept (t' := s3.toks) fun b ob q => Heap.get?_push_of_some _ q
  show wpAny (model X.prog X.w) X.A (subscriptTail e (.Slice none none (some st) p2) (.ref a) (.ref s3.heap.objs.size)) (EP X pins σ Q) X.xe { s3 with heap := s3.heap.push { cls := .type "slice", data := .fields #[.none, .none, .int (-1) t] } }
  have hsl : Heap.IsSliceOf (s3.heap.push { cls := .type "slice", data := .fields #[.none, .none, .int (-1) t] }) s3.heap.objs.size .none .none (.int (-1) t) := Heap.IsSliceOf.new ..
  rcases q3 with ⟨hq, q⟩ | ⟨hq, q⟩
  · obtain ⟨its, r, pl, hz⟩ := I4.tuple hq
    have hlen := r.length
    refine tail_any (ops := [.ref a, .ref s3.heap.objs.size]) pl.typeIs PyProof.Rows.slot_tuple_getitem.lookup ?_ (by with_unfolding_all rfl)
    refine getItem_tuple_rev pl hsl ?_ (by rw [List.size_toArray, ← hlen]; exact hz)
    refine ⟨.ref _, _, I4.laid (t' := s3.toks) (o := .tup xs.reverse) (fun b ob q => Heap.get?_push_of_some _ q) (Nat.le_refl _) ?_, rfl, q _ (I4.hok.fresh (Nat.le_refl _))⟩
    exact ⟨by rw [List.length_reverse]; exact hz, _, r.reverse, IsTup.new _ _⟩
  · obtain ⟨its, r, pl, hz⟩ := I4.list hq
    have hlen := r.length
    refine tail_any (ops := [.ref a, .ref s3.heap.objs.size]) pl.isList.typeIs slot_list_getitem.lookup ?_ (by with_unfolding_all rfl)
    refine wpAny_getItem_list_slice pl.isList hsl .none .none (.int (-1) t) (by decide) ?_ (by rw [List.size_toArray, ← hlen]; exact hz)
    rw [slicePick_rev]
    refine ⟨.ref _, _, I4.laid (t' := s3.toks) (o := .lst xs.reverse) (fun b ob q => Heap.get?_push_of_some _ q) (Nat.le_refl _) ?_, rfl, q _ (I4.hok.fresh (Nat.le_refl _))⟩
    exact ⟨by rw [List.length_reverse]; exact hz, _, 0, r.reverse, Heap.get?_push_size _ rfl⟩
def revF (f fs : FE) : FE := fun ρ => (f ρ).bind fun x => (fs ρ).bind fun y => match x, y with
  | .tup ds, .int i => if i = -1 then some (.tup ds.reverse) else none
  | .lst ds, .int i => if i = -1 then some (.lst ds.reverse) else none
  | _, _ => none
theorem bind2_some {α : Type} {f g : FE} {k : D → D → Option α} {ρ : Rho} {r : α} (h : ((f ρ).bind fun x => (g ρ).bind fun y => k x y) = some r) : ∃ x y, f ρ = some x ∧ g ρ = some y ∧ k x y = some r := by
  obtain ⟨x, e1, e2⟩ := bindV_some h
  obtain ⟨y, e3, e4⟩ := bindV_some e2
  exact ⟨x, y, e1, e3, e4⟩
theorem d_rev (he : DR X e f) (hst : DR X st fs) : DE X (.Subscript e (.Slice none none (some st) p2) pos) (revF f fs) :=
  pe_imp (pe_rev he hst) fun σ H Q ⟨H₀, Hf₀, ρ, Hf, d, R, q, k⟩ => by
    obtain ⟨x, y, e1, e2, e3⟩ := bind2_some q
    refine ⟨H₀, Hf₀, ρ, Hf, x, R, e1, fun v H1 Hf1 R1 s1 t1 h1 => ⟨H₀, Hf₀, ρ, Hf1, y, R1, e2, fun v' H2 Hf2 R2 s2 t2 h2 => ?_⟩⟩
    have h3 := h1.mono t2
    split at e3
    · split at e3
      · cases e3
        rename_i hi
        subst hi
        obtain ⟨a, xs, rfl, qa, la⟩ := h3.tup R2
        refine ⟨h2.int, a, xs, rfl, .inl ⟨qa, fun p hp => ?_⟩⟩
        have sm := same_upd (o := .tup xs.reverse) (R2.sf.free hp)
        exact k _ _ _ (R2.lay hp) ((s1.trans s2).trans (same_upd hp)) ((t1.trans t2).trans sm) (Has.tup_iff.mpr ⟨p, _, rfl, SqT.of upd_same, la.reverse.mono sm⟩)
      · cases e3
    · split at e3
      · cases e3
        rename_i hi
        subst hi
        obtain ⟨a, xs, rfl, qa, la⟩ := h3.lst R2
        refine ⟨h2.int, a, xs, rfl, .inr ⟨qa, fun p hp => ?_⟩⟩
        have sm := same_upd (o := .lst xs.reverse) (R2.sf.free hp)
        exact k _ _ _ (R2.lay hp) ((s1.trans s2).trans (same_upd hp)) ((t1.trans t2).trans sm) (Has.lst_iff.mpr ⟨p, _, rfl, SqL.of upd_same, la.reverse.mono sm⟩)
      · cases e3
    · cases e3
def tupleD : List D → Option D
  | [.lst ds] => some (.tup ds)
  | [.tup ds] => some (.tup ds)
  | _ => none
def listN (fa : FA) : FA := fun ρ => (fa ρ).bind fun l => match l with
  | [.lst ds] => some ds
  | [.tup ds] => some ds
  | _ => none
theorem dn_list {es : List Expr} {fa : FA} {p : Pos} (hg : Gl X "list") (hm : X.mg "list" = none) (ha : DAR X (e :: es) fa)
    (he : starEach (e :: es) X.env = (false, eval e X.env) :: starEach es X.env := by rfl) (hpl : (backTo pos (starEach es X.env)).any (·.1) = false := by rfl) : DN X (.Call (.Name "list" p) (e :: es) [] pos) (listN fa) :=
  pe_imp (pe_callTy (T := "list") call_list_of hg hm (by rfl) ha (by decide) (by decide) he hpl) fun σ H Q ⟨H₀, Hf₀, ρ, Hf, d, R, q, k⟩ => by
    obtain ⟨l, e1, e2⟩ := bindA_some q
    refine ⟨H₀, Hf₀, ρ, Hf, l, R, e1, fun vs H1 Hf1 R1 s1 t1 h1 => ?_⟩
    split at e2
    · cases e2
      obtain ⟨v, rfl, hv⟩ := HasRL.one h1
      obtain ⟨a, ys, rfl, q, l⟩ := hv.lst R1
      exact ⟨a, ys, rfl, .inl q, fun p hp => k _ _ _ _ (R1.layN hp) (s1.trans (same_upd hp)) t1 l upd_same (R1.sf.free hp) (s1.free hp)⟩
    · cases e2
      obtain ⟨v, rfl, hv⟩ := HasRL.one h1
      obtain ⟨a, ys, rfl, q, l⟩ := hv.tup R1
      exact ⟨a, ys, rfl, .inr q, fun p hp => k _ _ _ _ (R1.layN hp) (s1.trans (same_upd hp)) t1 l upd_same (R1.sf.free hp) (s1.free hp)⟩
    · cases e2
end
end
end FL
set_option Elab.async false
set_option linter.all false
set_option maxRecDepth 100000
set_option maxHeartbeats 4000000
namespace FL
open PySem PySem.Spec PyProof.Rows L2
theorem relV_inj {y y' : V} {u : Value} {K : PySem.W.Frag} {H : Hp} {d d' : D} (h : Has K H d y) (h' : Has K H d' y') (r : RelV y u) (r' : RelV y' u) : y = y' := by
  cases d with
  | non =>
    cases Has.non_iff.mp h
    cases r
    cases d' with
    | non => cases Has.non_iff.mp h'; rfl
    | bl _ => cases Has.bl_iff.mp h'; cases r'
    | int _ => cases Has.int_iff.mp h'; obtain ⟨t, e⟩ := r'; cases e
    | str _ => cases Has.str_iff.mp h'; obtain ⟨t, e⟩ := r'; cases e
    | tup _ => obtain ⟨_, _, rfl, _⟩ := Has.tup_iff.mp h'; cases r'
    | lst _ => obtain ⟨_, _, rfl, _⟩ := Has.lst_iff.mp h'; cases r'
  | bl b =>
    cases Has.bl_iff.mp h
    cases r
    cases d' with
    | non => cases Has.non_iff.mp h'; cases r'
    | bl _ => cases Has.bl_iff.mp h'; cases r'; rfl
    | int _ => cases Has.int_iff.mp h'; obtain ⟨t, e⟩ := r'; cases e
    | str _ => cases Has.str_iff.mp h'; obtain ⟨t, e⟩ := r'; cases e
    | tup _ => obtain ⟨_, _, rfl, _⟩ := Has.tup_iff.mp h'; cases r'
    | lst _ => obtain ⟨_, _, rfl, _⟩ := Has.lst_iff.mp h'; cases r'
  | int b =>
    cases Has.int_iff.mp h
    obtain ⟨t0, rfl⟩ := r
    cases d' with
    | non => cases Has.non_iff.mp h'; cases r'
    | bl _ => cases Has.bl_iff.mp h'; cases r'
    | int _ => cases Has.int_iff.mp h'; obtain ⟨t, e⟩ := r'; cases e; rfl
    | str _ => cases Has.str_iff.mp h'; obtain ⟨t, e⟩ := r'; cases e
    | tup _ => obtain ⟨_, _, rfl, _⟩ := Has.tup_iff.mp h'; cases r'
    | lst _ => obtain ⟨_, _, rfl, _⟩ := Has.lst_iff.mp h'; cases r'
  | str b =>
    cases Has.str_iff.mp h
    obtain ⟨t0, rfl⟩ := r
    cases d' with
    | non => cases Has.non_iff.mp h'; cases r'
    | bl _ => cases Has.bl_iff.mp h'; cases r'
    | int _ => cases Has.int_iff.mp h'; obtain ⟨t, e⟩ := r'; cases e
    | str _ => cases Has.str_iff.mp h'; obtain ⟨t, e⟩ := r'; cases e; rfl
    | tup _ => obtain ⟨_, _, rfl, _⟩ := Has.tup_iff.mp h'; cases r'
    | lst _ => obtain ⟨_, _, rfl, _⟩ := Has.lst_iff.mp h'; cases r'
  | tup ds =>
    obtain ⟨a, _, rfl, _⟩ := Has.tup_iff.mp h
    cases r
    cases d' with
    | non => cases Has.non_iff.mp h'; cases r'
    | bl _ => cases Has.bl_iff.mp h'; cases r'
    | int _ => cases Has.int_iff.mp h'; obtain ⟨t, e⟩ := r'; cases e
    | str _ => cases Has.str_iff.mp h'; obtain ⟨t, e⟩ := r'; cases e
    | tup _ => obtain ⟨_, _, rfl, _⟩ := Has.tup_iff.mp h'; cases r'; rfl
    | lst _ => obtain ⟨_, _, rfl, _⟩ := Has.lst_iff.mp h'; cases r'; rfl
  | lst ds =>
    obtain ⟨a, _, rfl, _⟩ := Has.lst_iff.mp h
    cases r
    cases d' with
    | non => cases Has.non_iff.mp h'; cases r'
    | bl _ => cases Has.bl_iff.mp h'; cases r'
    | int _ => cases Has.int_iff.mp h'; obtain ⟨t, e⟩ := r'; cases e
    | str _ => cases Has.str_iff.mp h'; obtain ⟨t, e⟩ := r'; cases e
    | tup _ => obtain ⟨_, _, rfl, _⟩ := Has.tup_iff.mp h'; cases r'; rfl
    | lst _ => obtain ⟨_, _, rfl, _⟩ := Has.lst_iff.mp h'; cases r'; rfl
open Classical in
/-- an item's answer, read off its datum -/
noncomputable def ansU (K : PySem.W.Frag) (H : Hp) (dx : D) (u : Value) : Bool := decide (∃ d y, RelV y u ∧ Has K H d y ∧ eqD d dx = true)
section
variable {X : Cx} {pins : List (Addr × Obj)} {σ : St} {H : Hp} {s : Shared}
open Classical in
theorem ansU_of (I : Inv X pins σ H s) {dx d : D} {y : V} {u : Value} (r : RelV y u) (h : Has X.K H d y) : ansU X.K H dx u = eqD d dx := by
  unfold ansU
  cases hq : eqD d dx with
  | true => exact decide_eq_true ⟨d, y, r, h, hq⟩
  | false =>
    refine decide_eq_false ?_
    rintro ⟨d', y', r', h', e'⟩
    cases relV_inj h' h r' r
    cases Has.inj I h' h
    rw [hq] at e'; cases e'
theorem any_ansU (I : Inv X pins σ H s) {dx : D} : ∀ {ds : List D} {xs : List V} {us : List Value}, HasL X.K H ds xs → Vals xs us → us.any (ansU X.K H dx) = ds.any fun d => eqD d dx
  | [], _, _, h, r => by rw [HasL.nil_iff] at h; subst h; cases r; rfl
  | d :: ds, _, _, h, r => by
    obtain ⟨x, xr, rfl, h1, h2⟩ := HasL.cons_iff.mp h
    cases r with
    | cons r rr => rw [List.any_cons, List.any_cons, ansU_of I r h1, any_ansU I h2 rr]
theorem mem_ansU (I : Inv X pins σ H s) {A : Around} {dx : D} {x : V} {v : Value} (hx : Has X.K H dx x) (rx : RelV x v) : ∀ {ds : List D} {xs : List V} {us : List Value}, HasL X.K H ds xs → Vals xs us → A.units + depL ds < cLine → ∀ u ∈ us, SeqAt.EqAt A s u v (ansU X.K H dx u)
  | [], _, _, h, r, _ => by rw [HasL.nil_iff] at h; subst h; cases r; intro u hu; cases hu
  | d :: ds, _, _, h, r, hu => by
    obtain ⟨y, yr, rfl, h1, h2⟩ := HasL.cons_iff.mp h
    unfold depL at hu
    cases r with
    | cons r rr =>
      intro u' hu'
      rcases List.mem_cons.mp hu' with rfl | hm
      · rw [ansU_of I r h1]
        exact eqAt_of I d A dx y x _ v h1 hx r rx (by have := Nat.le_max_left (dep d) (depL ds); omega)
      · exact mem_ansU I hx rx h2 rr (by have := Nat.le_max_right (dep d) (depL ds); omega) u' hm
end
section
variable {X : Cx} {e a b c : Expr} {f g h : FE} {pos p2 : Pos} {kk : Nat}
def inS (x z : Str) : Bool := !(Builtin.Str.occurrences z x 0 z.length 1).isEmpty
def rInD (K : PySem.W.Frag) (neg : Bool) : R2 := fun x y H Q => (∃ p ds xs dx, y = .ref p ∧ (SqL K H p xs ∨ SqT K H p xs) ∧ HasL K H ds xs ∧ Has K H dx x ∧ depL ds ≤ 100 ∧ Q (.bl (xor neg (ds.any fun d => eqD d dx))) H) ∨
  (∃ i j, x = .str i ∧ y = .str j ∧ Q (.bl (xor neg (inS i j))) H)
theorem op_inD (hr : Room kk X.A) : OpR X (compareOp .In) (rInD X.K false) := by
  intro pins s σ H x y v u Q I rx ry h
  rcases h with ⟨p, ds, xs, dx, rfl, hq, hl, hx, hd, q⟩ | h
  · cases ry
    have hu : X.A.in1.units + depL ds < cLine := by show X.A.units + 1 + depL ds < cLine; have := hr.un; omega
    simp only [Bool.false_xor] at q
    rcases hq with hq | hq
    · obtain ⟨its, r, pl, hz⟩ := I.list hq
      refine SeqAt.in_listAt (ansU X.K H dx) pl.isList (fun w hw => mem_ansU I hx rx hl r hu w (by simpa using hw)) ⟨.bl _, H, I, rfl, ?_⟩
      rw [show its.toArray.any (ansU X.K H dx) = its.any (ansU X.K H dx) by simp, any_ansU I hl r]
      exact q
    · obtain ⟨its, r, pl, hz⟩ := I.tuple hq
      refine SeqAt.in_tupleAt (ansU X.K H dx) pl (fun w hw => mem_ansU I hx rx hl r hu w (by simpa using hw)) ⟨.bl _, H, I, rfl, ?_⟩
      rw [show its.toArray.any (ansU X.K H dx) = its.any (ansU X.K H dx) by simp, any_ansU I hl r]
      exact q
  · obtain ⟨i, j, e1, e2, q⟩ := h
    exact op_in_str pins s σ H x y v u Q I rx ry ⟨i, j, e1, e2, by simpa [inS] using q⟩
theorem op_notInD (hr : Room kk X.A) : OpR X (compareOp .NotIn) (rInD X.K true) := by
  intro pins s σ H x y v u Q I rx ry h
  rcases h with ⟨p, ds, xs, dx, rfl, hq, hl, hx, hd, q⟩ | h
  · cases ry
    have hu : X.A.in1.units + depL ds < cLine := by show X.A.units + 1 + depL ds < cLine; have := hr.un; omega
    simp only [Bool.true_xor] at q
    rcases hq with hq | hq
    · obtain ⟨its, r, pl, hz⟩ := I.list hq
      refine SeqAt.notIn_listAt (ansU X.K H dx) pl.isList (fun w hw => mem_ansU I hx rx hl r hu w (by simpa using hw)) ⟨.bl _, H, I, rfl, ?_⟩
      rw [show its.toArray.any (ansU X.K H dx) = its.any (ansU X.K H dx) by simp, any_ansU I hl r]
      exact q
    · obtain ⟨its, r, pl, hz⟩ := I.tuple hq
      refine SeqAt.notIn_tupleAt (ansU X.K H dx) pl (fun w hw => mem_ansU I hx rx hl r hu w (by simpa using hw)) ⟨.bl _, H, I, rfl, ?_⟩
      rw [show its.toArray.any (ansU X.K H dx) = its.any (ansU X.K H dx) by simp, any_ansU I hl r]
      exact q
  · obtain ⟨i, j, e1, e2, q⟩ := h
    exact op_notin_str pins s σ H x y v u Q I rx ry ⟨i, j, e1, e2, by simpa [inS] using q⟩
def inD (neg : Bool) : D → D → Option D
  | x, .lst ds => if depL ds ≤ 100 then some (.bl (xor neg (ds.any fun d => eqD d x))) else none
  | x, .tup ds => if depL ds ≤ 100 then some (.bl (xor neg (ds.any fun d => eqD d x))) else none
  | .str x, .str z => some (.bl (xor neg (inS x z)))
  | _, _ => none
theorem opD_in {neg : Bool} : OpD X (rInD X.K neg) (inD neg) := by
  intro σ ρ H₀ Hf₀ H Hf x y dx dy d Q R hx hy hφ k
  unfold inD at hφ
  split at hφ
  · split at hφ
    · cases hφ
      rename_i hd
      obtain ⟨a, xs, rfl, qa, la⟩ := hy.lst R
      exact .inl ⟨a, _, xs, dx, rfl, .inl qa, la.mono R.sf, hx.full R, hd, k _ _ _ R sameR sameR (Has.bl_iff.mpr rfl)⟩
    · cases hφ
  · split at hφ
    · cases hφ
      rename_i hd
      obtain ⟨a, xs, rfl, qa, la⟩ := hy.tup R
      exact .inl ⟨a, _, xs, dx, rfl, .inr qa, la.mono R.sf, hx.full R, hd, k _ _ _ R sameR sameR (Has.bl_iff.mpr rfl)⟩
    · cases hφ
  · cases hφ
    exact .inr ⟨_, _, hx.str, hy.str, k _ _ _ R sameR sameR (Has.bl_iff.mpr rfl)⟩
  · cases hφ
theorem d_in (hr : Room kk X.A) (ha : DR X a f) (hb : DR X b g) (hm : behindInMarks .In b = false := by rfl) : DE X (.Compare a [.In] [b] pos) (bind2 (inD false) f g) := d_cmp (op_inD hr) opD_in ha hb hm
theorem dt_notin (hr : Room kk X.A) (ha : DR X a f) (hb : DR X b g) (hm : behindInMarks .NotIn b = false := by rfl) : DT X (.Compare a [.NotIn] [b] pos) (blF (bind2 (inD true) f g)) := pt_of_cmp (op_notInD hr) opD_in ha hb hm
def chainF (φ ψ : D → D → Option D) (f g h : FE) : FE := fun ρ => (f ρ).bind fun x => (g ρ).bind fun y => (φ x y).bind fun
  | .bl true => (h ρ).bind fun z => ψ y z
  | .bl false => some (.bl false)
  | _ => none
theorem tChain_of {r r' : R2} {φ ψ : D → D → Option D} (hφ : OpD X r φ) (hψ : OpD X r' ψ) (σ : St) (H : Hp) (Q : VK) (hh : tF X.K (chainF φ ψ f g h) σ H Q) : tChain r r' (tR X.K f) (tR X.K g) (tR X.K h) σ H Q := by
  obtain ⟨H₀, Hf₀, ρ, Hf, d, R, q, k⟩ := hh
  obtain ⟨x, y, e1, e2, e3⟩ := bind2_some q
  obtain ⟨z, e4, e5⟩ : ∃ z, φ x y = some z ∧ _ = some d := by
    cases hz : φ x y with
    | none => rw [hz] at e3; cases e3
    | some z => rw [hz] at e3; exact ⟨z, rfl, e3⟩
  refine ⟨H₀, Hf₀, ρ, Hf, x, R, e1, fun v H1 Hf1 R1 s1 t1 h1 => ⟨H₀, Hf₀, ρ, Hf1, y, R1, e2, fun v' H2 Hf2 R2 s2 t2 h2 => ?_⟩⟩
  refine hφ σ ρ H₀ Hf₀ H2 Hf2 v v' x y z _ R2 (h1.mono t2) h2 e4 fun w H3 Hf3 R3 s3 t3 h3 => ?_
  cases z with
  | bl b =>
    refine ⟨b, Has.bl_iff.mp h3, ?_⟩
    cases b with
    | true =>
      obtain ⟨z', e6, e7⟩ := bindV_some e5
      refine iteT ⟨H₀, Hf₀, ρ, Hf3, z', R3, e6, fun w' H4 Hf4 R4 s4 t4 h4 => ?_⟩
      exact hψ σ ρ H₀ Hf₀ H4 Hf4 v' w' y z' d Q R4 ((h2.mono t3).mono t4) h4 e7 fun u H5 Hf5 R5 s5 t5 h5 => k _ _ _ R5 ((((s1.trans s2).trans s3).trans s4).trans s5) ((((t1.trans t2).trans t3).trans t4).trans t5) h5
    | false =>
      cases e5
      exact iteF (k _ _ _ R3 ((s1.trans s2).trans s3) ((t1.trans t2).trans t3) (Has.bl_iff.mpr rfl))
  | _ => cases e5
theorem dt_chain {op op' : CmpOp} {r r' : R2} {φ ψ : D → D → Option D} (ho : OpR X (compareOp op) r) (ho' : OpR X (compareOp op') r') (hφ : OpD X r φ) (hψ : OpD X r' ψ) (ha : DR X a f) (hb : DR X b g) (hc : DR X c h)
    (hm : lastMarks [op, op'] [b, c] = false := by with_unfolding_all rfl) : DT X (.Compare a [op, op'] [b, c] pos) (blF (chainF φ ψ f g h)) :=
  pt_imp (pt_chain ho ho' ha hb hc hm) fun σ H Q ⟨H₀, Hf₀, ρ, Hf, d, R, q, k⟩ => tChain_of hφ hψ σ H _ ⟨H₀, Hf₀, ρ, Hf, _, R, blF_some q, fun v H1 Hf1 R1 s1 t1 h1 => ⟨d, Has.bl_iff.mp h1, k _ _ R1 s1 t1⟩⟩
def chain3F (φ ψ χ : D → D → Option D) (f g h i : FE) : FE := fun ρ => (f ρ).bind fun x => (g ρ).bind fun y => (φ x y).bind fun
  | .bl true => (h ρ).bind fun z => (ψ y z).bind fun
    | .bl true => (i ρ).bind fun w => χ z w
    | .bl false => some (.bl false)
    | _ => none
  | .bl false => some (.bl false)
  | _ => none
structure GTup (K : PySem.W.Frag) (mg : Str → Option Value) (x : Str) (ds : List D) : Prop where
  ex : ∃ a, mg x = some (.ref a) ∧ Has K (fun _ => none) (.tup ds) (.ref a)
theorem same_none {H : Hp} : Same (fun _ => none) H := fun _ _ e => by cases e
theorem d_gtup {x : Str} {ds : List D} (hg : Gl X x) (hm : GTup X.K X.mg x ds) (hd : (x == ("__debug__" : Str)) = false := by decide) : DE X (.Name x pos) (cF (.tup ds)) := by
  obtain ⟨a, h1, h2⟩ := hm.ex
  exact pe_imp (pe_glob (v := .ref a) hg h1 rfl hd) fun σ H Q ⟨H₀, Hf₀, ρ, Hf, d', R, q, k⟩ => by
    cases q
    exact k _ _ _ R sameR sameR (h2.mono same_none)
theorem gtup_mk {K : PySem.W.Frag} {mg : Str → Option Value} {x : Str} {ds : List D} {a : Addr} {xs : List V} {its : Array Value} {od : Option Addr} {n : Nat} {osl : Array (Option Value)} (h1 : mg x = some (.ref a)) (h2 : K.lookup a = some ⟨.type "tuple", od, .seq its n, osl⟩) (hz : its.size ≤ sizeLine) (hv : Vals xs its.toList) (hl : HasL K (fun _ => none) ds xs) : GTup K mg x ds :=
  ⟨a, h1, Has.tup_iff.mpr ⟨a, xs, rfl, .inr ⟨_, its, n, h2, rfl, rfl, hz, hv⟩, hl⟩⟩
end
end FL
set_option Elab.async false
set_option linter.all false
set_option maxRecDepth 100000
set_option maxHeartbeats 4000000
namespace FL
open PySem PySem.Spec PyProof.Rows L2
section
variable {prog : Program} {w : World} {A : Around} {E : Value → Shared → Prop} {s : Shared}
end
section
variable {X : Cx} {e : Expr} {f : FE} {pos : Pos} {tg : Expr}
end
end FL
set_option Elab.async false
set_option linter.all false
set_option maxRecDepth 100000
set_option maxHeartbeats 4000000
namespace FL
open PySem PySem.Spec PyProof.Rows L2
section
variable {X : Cx} {e : Expr} {f : FE} {pos : Pos} {tg : Expr}
end
def isKind (k : NameKind) : Option NameKind → Bool
  | some k' => k' == k
  | none => false
def compOk (osc scope : Scope) (frees : List Str) : Bool :=
  scope.kind == .function && scope.names.all (fun y => !(y.2 == .cell)) && scope.names.all (fun y => !(y.2 == .local) || isKind .local (scope.names.lookup y.1)) &&
  scope.names.all (fun y => !(y.2 == .free) || (isKind .cell (osc.names.lookup y.1) || isKind .free (osc.names.lookup y.1))) &&
  frees.all (fun x => (isKind .cell (osc.names.lookup x) || isKind .free (osc.names.lookup x)) && isKind .free (scope.names.lookup x))
theorem isKind_eq {k : NameKind} {o : Option NameKind} (h : isKind k o = true) : o = some k := by
  unfold isKind at h
  split at h
  · rw [eq_of_beq h]
  · cases h
theorem CompScope.of {osc scope : Scope} {own frees : List Str} (h : compOk osc scope frees = true) : CompScope osc scope own frees := by
  unfold compOk at h
  simp only [Bool.and_eq_true, List.all_eq_true] at h
  obtain ⟨⟨⟨⟨h1, h2⟩, h3⟩, h4⟩, h5⟩ := h
  refine ⟨eq_of_beq h1, fun y hy z => ?_, fun y hy z => ?_, fun y hy z => ?_, fun x hx => ?_⟩
  · have := h2 y hy
    rw [z] at this
    simp at this
  · have := h3 y hy
    rw [z] at this
    simp at this
    exact isKind_eq this
  · have := h4 y hy
    rw [z] at this
    simp at this
    exact this.imp isKind_eq isKind_eq
  · have := h5 x hx
    exact ⟨(by simpa using this.1 : _ ∨ _).imp isKind_eq isKind_eq, isKind_eq this.2⟩
section
variable {X : Cx} {scope : Scope} {own frees : List Str} {caps : List Nat}
theorem Rep.lstFrz {K : PySem.W.Frag} {H₀ Hf₀ : Hp} {σ : St} {ρ : Rho} {H Hf H' Hf' : Hp} {a : Addr} {xs : List V} (R : Rep K H₀ Hf₀ σ ρ H Hf) (R' : Rep K H₀ Hf₀ σ ρ H' Hf') (ha : H' a = some (.lst xs)) (hn : Hf' a = none) (hh : H a = none) : Rep K H₀ Hf₀ σ ρ H' (upd Hf' a (.lst xs)) := by
  have sm : Same Hf' (upd Hf' a (.lst xs)) := same_upd hn
  refine ⟨R'.s0, fun b u z => ?_, fun b u z => ?_, R'.f0.trans sm, R'.len, fun i d z => ?_, fun i sl z o => ?_, R'.inj⟩
  · by_cases hb : b = a
    · subst hb; rw [upd_same] at z; cases z; exact ha
    · rw [upd_ne hb] at z; exact R'.sf b u z
  · by_cases hb : b = a
    · subst hb; exact .inr (.inl (R.s0.free hh))
    · rw [upd_ne hb] at z; exact R'.nf b u z
  · obtain ⟨v, p1, p2⟩ := R'.fr i d z
    exact ⟨v, p1, p2.mono sm⟩
  · obtain ⟨b, p1, p2, p3, p4⟩ := R.ow i sl z o
    obtain ⟨b', r1, r2, r3, r4⟩ := R'.ow i sl z o
    rw [p1] at r1; cases r1
    refine ⟨b, p1, r2.mono (fun u q => q) sm, ?_, r4⟩
    rw [upd_ne]
    · exact r3
    · rintro rfl
      obtain ⟨o', q'⟩ := p2.there o
      rw [q'] at hh; cases hh
theorem ds_asgComp {tg elt iter : Expr} {ifs : List Expr} {y : Str} {py pos spos : Pos} {fi : FA} {γ : FG} {ft : FT} {f : FE} (i : Nat) (hN : X.N.Nodup) (hc : X.calm = true) (S : CompScope X.env.scope scope own frees) (hcap : caps.map (fun j => X.N[j]?) = frees.map some) (kn : KeepsNo γ) (hi : DI X tg iter fi)
    (body : ∀ cl C s H fp, DG (cxC X scope cl C (own ++ frees) s H fp) tg γ ∧ DQ (cxC X scope cl C (own ++ frees) s H fp) ifs ft ∧ DE (cxC X scope cl C (own ++ frees) s H fp) elt f)
    (hsw : swapsWith (.ListComp elt [⟨tg, iter, ifs, 0⟩] scope pos) (some (.Name y py)) spos.line X.env = pure true := by rfl) (hiN : X.N[i]? = some y := by rfl) (hy : X.env.scope.names.lookup y = some .local := by rfl)
    (hs : ∀ x, foldedSetIterable iter X.env x = pure x := by intro _; rfl) : DS X (.Assign [.Name y py] (.ListComp elt [⟨tg, iter, ifs, 0⟩] scope pos) spos) (asgF i (mapLst (compF own.length caps fi γ ft f))) :=
  ps_imp (wp_asgComp hc S hcap kn hi body hsw i hN hiN hy hs) fun D' σ H ⟨H₀, Hf₀, ρ, Hf, o, R, q, k⟩ => by
    obtain ⟨d, e1, e2⟩ := bindV_some q
    cases e2
    unfold mapLst at e1
    cases e3 : compF own.length caps fi γ ft f ρ with
    | none => rw [e3] at e1; cases e1
    | some ds =>
      rw [e3] at e1
      cases e1
      refine ⟨H₀, Hf₀, ρ, Hf, ds, R, e3, fun a xs H1 Hf1 R1 s1 t1 h1 ha hn hh => ?_⟩
      have sm : Same Hf1 (upd Hf1 a (.lst xs)) := same_upd hn
      exact k _ _ _ ((R.lstFrz R1 ha hn hh).set i (Has.lst_iff.mpr ⟨a, xs, rfl, SqL.of upd_same, h1.mono sm⟩)) (t1.trans sm)
end
end FL
set_option Elab.async false
set_option linter.all false
set_option maxRecDepth 100000
set_option maxHeartbeats 4000000
namespace FL
open PySem PySem.Spec PyProof.Rows L2
section
variable {ρ : Rho} {i j k : Nat} {f g h : FE} {fa ga : FA} {ft gt ht : FT} {F G B : FS} {γ : FG} {δ : FGs} {d x y : D} {ds : List D}
@[simp] theorem s_vF : vF i ρ = (match ρ[i]? with | some (.fr d) => some d | _ => none) := rfl
@[simp] theorem s_cF : cF d ρ = some d := rfl
@[simp] theorem s_bind1 {φ : D → Option D} : bind1 φ f ρ = (f ρ).bind φ := rfl
@[simp] theorem s_bind2 {φ : D → D → Option D} : bind2 φ f g ρ = (f ρ).bind fun x => (g ρ).bind fun y => φ x y := rfl
@[simp] theorem s_nilA : nilA ρ = some [] := rfl
@[simp] theorem s_consA : consA f ga ρ = (f ρ).bind fun x => (ga ρ).bind fun xs => some (x :: xs) := rfl
@[simp] theorem s_tupF : tupF ga ρ = (ga ρ).bind fun xs => if xs.length ≤ sizeLine then some (.tup xs) else none := rfl
@[simp] theorem s_lstF : lstF ga ρ = (ga ρ).bind fun xs => if xs.length ≤ sizeLine then some xs else none := rfl
@[simp] theorem s_mapLst : mapLst fa ρ = (fa ρ).map D.lst := rfl
@[simp] theorem s_blF : blF f ρ = (f ρ).bind fun | .bl b => some b | _ => none := rfl
@[simp] theorem s_andT : andT ft gt ρ = (ft ρ).bind fun b => if b = true then gt ρ else some false := rfl
@[simp] theorem s_orT : orT ft gt ρ = (ft ρ).bind fun b => if b = true then some true else gt ρ := rfl
@[simp] theorem s_notT : notT ft ρ = (ft ρ).bind fun b => some (!b) := rfl
@[simp] theorem s_ttF : ttF ρ = some true := rfl
@[simp] theorem s_andV : andV f g ρ = (f ρ).bind fun | .bl b => (if b = true then g ρ else some (.bl false)) | _ => none := rfl
@[simp] theorem s_notV : notV f ρ = (f ρ).bind fun | .bl b => some (.bl (!b)) | _ => none := rfl
@[simp] theorem s_ifF : ifF ft f g ρ = (ft ρ).bind fun b => if b = true then f ρ else g ρ := rfl
@[simp] theorem s_appF {φ : List D → Option D} : appF φ fa ρ = (fa ρ).bind φ := rfl
@[simp] theorem s_seqF : seqF F G ρ = (F ρ).bind fun o => match o with | .nx ρ' => G ρ' | o => some o := rfl
@[simp] theorem s_nxF : nxF ρ = some (.nx ρ) := rfl
@[simp] theorem s_retF : retF f ρ = (f ρ).bind fun d => some (.rt d) := rfl
@[simp] theorem s_dropF : dropF f ρ = (f ρ).bind fun _ => some (.nx ρ) := rfl
@[simp] theorem s_ifS : ifS ft F G ρ = (ft ρ).bind fun b => if b = true then F ρ else G ρ := rfl
@[simp] theorem s_asgF : asgF i f ρ = (f ρ).bind fun d => some (.nx (ρ.set i (.fr d))) := rfl
@[simp] theorem s_asgN : asgN i fa ρ = (fa ρ).bind fun ds => some (.nx (ρ.set i (.ol ds))) := rfl
@[simp] theorem s_frzF : frzF i F ρ = (frz i ρ).bind F := rfl
@[simp] theorem s_frz : frz i ρ = (match ρ[i]? with | some (.ol ds) => some (ρ.set i (.fr (.lst ds))) | some (.fr _) => some ρ | _ => none) := rfl
@[simp] theorem s_nameG : nameG i d ρ = some (ρ.set i (.fr d)) := rfl
@[simp] theorem s_nilG : nilG [] ρ = some ρ := rfl
@[simp] theorem s_consG {r : List D} : consG γ δ (d :: r) ρ = (γ d ρ).bind fun ρ' => δ r ρ' := rfl
@[simp] theorem s_tupG : tupG k δ (.tup ds) ρ = if ds.length = k then δ ds ρ else none := rfl
@[simp] theorem s_parF : parF i j fa ρ = (fa ρ).bind fun l => match l with | [d, d'] => some (.nx ((ρ.set i (.fr d)).set j (.fr d'))) | _ => none := rfl
@[simp] theorem s_appendF : appendF i f ρ = (f ρ).bind fun d => match ρ[i]? with | some (.ol ds) => if ds.length < sizeLine then some (.nx (ρ.set i (.ol (ds ++ [d])))) else none | _ => none := rfl
@[simp] theorem s_forF : forF fa γ B ρ = (fa ρ).bind fun ds => loopF γ B ds ρ := rfl
@[simp] theorem s_noP : noP ρ = some none := rfl
@[simp] theorem s_exP : exP f ρ = (f ρ).bind fun | .int i => some (some i) | _ => none := rfl
@[simp] theorem s_sliceF {l u : FP} : sliceF f l u ρ = (f ρ).bind fun x => (l ρ).bind fun lo => (u ρ).bind fun hi => match x with | .tup ds => some (.tup (cutL ds lo hi)) | .lst ds => some (.lst (cutL ds lo hi)) | _ => none := rfl
@[simp] theorem s_revF : revF f g ρ = (f ρ).bind fun x => (g ρ).bind fun y => match x, y with | .tup ds, .int i => if i = -1 then some (.tup ds.reverse) else none | .lst ds, .int i => if i = -1 then some (.lst ds.reverse) else none | _, _ => none := rfl
@[simp] theorem s_listN : listN fa ρ = (fa ρ).bind fun l => match l with | [.lst ds] => some ds | [.tup ds] => some ds | _ => none := rfl
@[simp] theorem s_compF {n : Nat} {caps : List Nat} {fi : FA} : compF n caps fi γ ft f ρ = (fi ρ).bind fun ds => if ds.length ≤ sizeLine then compGo γ ft f ds (compS n caps ρ) else none := rfl
@[simp] theorem s_compS {n : Nat} {caps : List Nat} : compS n caps ρ = List.replicate n .no ++ caps.map (capS ρ) := rfl
@[simp] theorem s_capS : capS ρ j = (match ρ[j]? with | some (.fr d) => .fr d | _ => .no) := rfl
@[simp] theorem s_rng1 : rng1 fa ρ = (fa ρ).bind rangeA := rfl
@[simp] theorem s_rng2 : rng2 fa ρ = (fa ρ).bind rangeB := rfl
theorem rangeA_ok {j : Int} (h1 : -1000000 ≤ j) (h2 : j ≤ 1000000) : rangeA [.int j] = some (rangeD 0 j) := by
  show @ite _ (-(2 ^ 62) ≤ j ∧ j < 2 ^ 62) (Classical.propDecidable _) (some (rangeD 0 j)) none = _
  rw [if_pos (by omega)]
theorem rangeB_ok {i j : Int} (h1 : -1000000 ≤ i) (h2 : i ≤ 1000000) (h3 : -1000000 ≤ j) (h4 : j ≤ 1000000) : rangeB [.int i, .int j] = some (rangeD i j) := by
  show @ite _ (-(2 ^ 62) ≤ i ∧ i < 2 ^ 62 ∧ -(2 ^ 62) ≤ j ∧ j < 2 ^ 62) (Classical.propDecidable _) (some (rangeD i j)) none = _
  rw [if_pos (by omega)]
@[simp] theorem s_chainF {φ ψ : D → D → Option D} : chainF φ ψ f g h ρ = (f ρ).bind fun x => (g ρ).bind fun y => (φ x y).bind fun | .bl true => (h ρ).bind fun z => ψ y z | .bl false => some (.bl false) | _ => none := rfl
@[simp] theorem s_denF : denF k F ds = outD (F (startR k ds)) := rfl
@[simp] theorem s_outR : outD (some (.rt d)) = some d := rfl
@[simp] theorem s_outN : outD (some (.nx ρ)) = some .non := rfl
@[simp] theorem s_startR : startR k ds = ds.map Slot.fr ++ List.replicate (k - ds.length) Slot.no := rfl
variable {a b : Int}
@[simp] theorem s_sub : subD (.int a) (.int b) = some (.int (a - b)) := rfl
@[simp] theorem s_add : addX (.int a) (.int b) = some (.int (a + b)) := rfl
@[simp] theorem s_lt : ltD (.int a) (.int b) = some (.bl (decide (a < b))) := rfl
@[simp] theorem s_le : leD (.int a) (.int b) = some (.bl (decide (a ≤ b))) := rfl
@[simp] theorem s_gt : gtD (.int a) (.int b) = some (.bl (decide (b < a))) := rfl
@[simp] theorem s_ge : geD (.int a) (.int b) = some (.bl (decide (b ≤ a))) := rfl
@[simp] theorem s_neg : negD (.int a) = some (.int (-a)) := rfl
@[simp] theorem s_eqi : eqF (.int a) (.int b) = some (.bl (decide (a = b))) := eqF_int
@[simp] theorem s_nei : neF (.int a) (.int b) = some (.bl (!decide (a = b))) := neF_int
@[simp] theorem s_min : minD [.int a, .int b] = some (.int (if b < a then b else a)) := rfl
@[simp] theorem s_max : maxD [.int a, .int b] = some (.int (if b > a then b else a)) := rfl
@[simp] theorem s_lenL : lenD [.lst ds] = some (.int ds.length) := rfl
@[simp] theorem s_lenT : lenD [.tup ds] = some (.int ds.length) := rfl
@[simp] theorem s_tuL : tupleD [.lst ds] = some (.tup ds) := rfl
@[simp] theorem s_tuT : tupleD [.tup ds] = some (.tup ds) := rfl
@[simp] theorem s_isTy {T : String} : isTy T d = some (.bl (subTy (tyN d) T)) := rfl
end
theorem compF_ok {n : Nat} {caps : List Nat} {fi : FA} {γ : FG} {ft : FT} {f : FE} {ρ : Rho} {ds : List D} (h : fi ρ = some ds) (hz : ds.length ≤ sizeLine) : compF n caps fi γ ft f ρ = compGo γ ft f ds (compS n caps ρ) := by
  rw [s_compF, h, Option.bind_some, if_pos hz]
end FL
set_option Elab.async false
set_option linter.all false
set_option maxRecDepth 100000
set_option maxHeartbeats 4000000
namespace FL
open PySem PySem.Spec PyProof.Rows L2
section
variable {X : Cx}
end
end FL
set_option Elab.async false
set_option linter.all false
set_option maxRecDepth 100000
set_option maxHeartbeats 4000000
namespace FL
open PySem PySem.Spec PyProof.Rows L2
variable {X : Cx}
def intsOf : List D → Option (List Int)
  | [] => some []
  | .int b :: ds => (intsOf ds).map (b :: ·)
  | _ :: _ => none
theorem intsOf_map : ∀ bs : List Int, intsOf (bs.map D.int) = some bs
  | [] => rfl
  | b :: bs => by rw [List.map_cons, intsOf, intsOf_map bs]; rfl
end FL
set_option Elab.async false
set_option linter.all false
set_option maxRecDepth 100000
set_option maxHeartbeats 4000000
namespace FL
open PySem PySem.Spec PyProof.Rows L2
section
variable {prog : Program} {w : World} {A : Around} {E : Value → Shared → Prop} {s : Shared}
end
variable {X : Cx} {e : Expr} {f : FE} {pos : Pos}
end FL
set_option Elab.async false
set_option linter.all false
set_option maxRecDepth 100000
set_option maxHeartbeats 4000000
namespace FL
open PySem PySem.Spec PyProof.Rows L2
section
variable {X : Cx} {pins : List (Addr × Obj)} {σ : St} {H : Hp} {s : Shared}
end
section
variable {X : Cx} {o e : Expr} {f g : FE} {kk : Nat}
end
end FL
set_option Elab.async false
set_option linter.all false
set_option maxRecDepth 100000
set_option maxHeartbeats 4000000
namespace FL
open PySem PySem.Spec PyProof.Rows L2
section
variable {X : Cx} {tg : Expr}
end
end FL
set_option Elab.async false
set_option linter.all false
set_option maxRecDepth 100000
set_option maxHeartbeats 4000000
namespace FL
open PySem PySem.Spec PyProof.Rows L2
section
variable {X : Cx} {a b c dd : Expr} {f g h i4 : FE} {pos p2 : Pos}
def tChain3 (r r' r'' : R2) (ta tb tc td : TE) : TE := fun σ H Q => ta σ H fun x H1 => tb σ H1 fun y H2 => r x y H2 fun z H3 => ∃ k, z = .bl k ∧
  (if k = true then tc σ H3 fun w' H4 => r' y w' H4 fun z2 H5 => ∃ k2, z2 = .bl k2 ∧ (if k2 = true then td σ H5 fun u' H6 => r'' w' u' H6 Q else Q (.bl false) H5) else Q (.bl false) H3)
theorem pt_chain3 {op op' op'' : CmpOp} {r r' r'' : R2} {ta tb tc td : TE} (ho : OpR X (compareOp op) r) (ho' : OpR X (compareOp op') r') (ho'' : OpR X (compareOp op'') r'') (ha : PE X a ta) (hb : PE X b tb) (hc : PE X c tc) (hd : PE X dd td)
    (hm : lastMarks [op, op', op''] [b, c, dd] = false := by with_unfolding_all rfl) : PT X (.Compare a [op, op', op''] [b, c, dd] pos) (tTest (tChain3 r r' r'' ta tb tc td)) := by
  intro pins s σ H Q I h
  refine isTrue_chain (thn (ha pins s σ H _ I h) fun v s1 ⟨x, H1, I1, r1, q1⟩ => test_link (thn (hb pins s1 σ H1 _ I1 q1) fun u s2 ⟨y, H2, I2, r2, q2⟩ =>
    thn (ho pins s2 σ H2 x y v u _ I2 r1 r2 q2) fun d s3 ⟨z, H3, I3, r3, k, e, q3⟩ => ?_)) hm
  subst e
  cases r3
  refine wpAny_truthy_bool ?_
  cases k with
  | false =>
    obtain ⟨k', e', q'⟩ := q3
    cases e'
    exact ite_ff ⟨H3, I3, q'⟩
  | true =>
    refine ite_tt (test_link (thn (hc pins s3 σ H3 _ I3 q3) fun w' s4 ⟨z', H4, I4, r4, q4⟩ => thn (ho' pins s4 σ H4 y z' u w' _ I4 r2 r4 q4) fun d' s5 ⟨z2, H5, I5, r5, k2, e2, q5⟩ => ?_))
    subst e2
    cases r5
    refine wpAny_truthy_bool ?_
    cases k2 with
    | false =>
      obtain ⟨k', e', q'⟩ := q5
      cases e'
      exact ite_ff ⟨H5, I5, q'⟩
    | true =>
      refine ite_tt (test_last (thn (hd pins s5 σ H5 _ I5 q5) fun w2 s6 ⟨z3, H6, I6, r6, q6⟩ => thn (ho'' pins s6 σ H6 z' z3 w' w2 _ I6 r4 r6 q6) fun d3 s7 ⟨z4, H7, I7, r7, k3, e3, q7⟩ => ?_))
      subst e3
      cases r7
      exact wpAny_truthy_bool ⟨H7, I7, q7⟩
theorem bindOpt_some {α β : Type} {o : Option α} {k : α → Option β} {r : β} (h : o.bind k = some r) : ∃ x, o = some x ∧ k x = some r := by
  cases o with
  | none => cases h
  | some x => exact ⟨x, rfl, h⟩
theorem tChain3_of {r r' r'' : R2} {φ ψ χ : D → D → Option D} (hφ : OpD X r φ) (hψ : OpD X r' ψ) (hχ : OpD X r'' χ) (σ : St) (H : Hp) (Q : VK) (hh : tF X.K (chain3F φ ψ χ f g h i4) σ H Q) : tChain3 r r' r'' (tR X.K f) (tR X.K g) (tR X.K h) (tR X.K i4) σ H Q := by
  obtain ⟨H₀, Hf₀, ρ, Hf, d, R, q, k⟩ := hh
  obtain ⟨x, y, e1, e2, e3⟩ := bind2_some q
  obtain ⟨z, e4, e5⟩ := bindOpt_some e3
  refine ⟨H₀, Hf₀, ρ, Hf, x, R, e1, fun v H1 Hf1 R1 s1 t1 h1 => ⟨H₀, Hf₀, ρ, Hf1, y, R1, e2, fun v' H2 Hf2 R2 s2 t2 h2 => ?_⟩⟩
  refine hφ σ ρ H₀ Hf₀ H2 Hf2 v v' x y z _ R2 (h1.mono t2) h2 e4 fun w H3 Hf3 R3 s3 t3 h3 => ?_
  cases z with
  | bl b =>
    refine ⟨b, Has.bl_iff.mp h3, ?_⟩
    cases b with
    | true =>
      obtain ⟨z', e6, e7⟩ := bindV_some e5
      obtain ⟨z2, e8, e9⟩ := bindOpt_some e7
      refine iteT ⟨H₀, Hf₀, ρ, Hf3, z', R3, e6, fun w' H4 Hf4 R4 s4 t4 h4 => ?_⟩
      refine hψ σ ρ H₀ Hf₀ H4 Hf4 v' w' y z' z2 _ R4 ((h2.mono t3).mono t4) h4 e8 fun u H5 Hf5 R5 s5 t5 h5 => ?_
      cases z2 with
      | bl b2 =>
        refine ⟨b2, Has.bl_iff.mp h5, ?_⟩
        cases b2 with
        | true =>
          obtain ⟨z3, e10, e11⟩ := bindV_some e9
          refine iteT ⟨H₀, Hf₀, ρ, Hf5, z3, R5, e10, fun w2 H6 Hf6 R6 s6 t6 h6 => ?_⟩
          exact hχ σ ρ H₀ Hf₀ H6 Hf6 w' w2 z' z3 d Q R6 ((h4.mono t5).mono t6) h6 e11 fun u H7 Hf7 R7 s7 t7 h7 => k _ _ _ R7 ((((((s1.trans s2).trans s3).trans s4).trans s5).trans s6).trans s7) ((((((t1.trans t2).trans t3).trans t4).trans t5).trans t6).trans t7) h7
        | false =>
          cases e9
          exact iteF (k _ _ _ R5 ((((s1.trans s2).trans s3).trans s4).trans s5) ((((t1.trans t2).trans t3).trans t4).trans t5) (Has.bl_iff.mpr rfl))
      | _ => cases e9
    | false =>
      cases e5
      exact iteF (k _ _ _ R3 ((s1.trans s2).trans s3) ((t1.trans t2).trans t3) (Has.bl_iff.mpr rfl))
  | _ => cases e5
theorem dt_chain3 {op op' op'' : CmpOp} {r r' r'' : R2} {φ ψ χ : D → D → Option D} (ho : OpR X (compareOp op) r) (ho' : OpR X (compareOp op') r') (ho'' : OpR X (compareOp op'') r'') (hφ : OpD X r φ) (hψ : OpD X r' ψ) (hχ : OpD X r'' χ) (ha : DR X a f) (hb : DR X b g) (hc : DR X c h) (hd : DR X dd i4)
    (hm : lastMarks [op, op', op''] [b, c, dd] = false := by with_unfolding_all rfl) : DT X (.Compare a [op, op', op''] [b, c, dd] pos) (blF (chain3F φ ψ χ f g h i4)) :=
  pt_imp (pt_chain3 ho ho' ho'' ha hb hc hd hm) fun σ H Q ⟨H₀, Hf₀, ρ, Hf, d, R, q, k⟩ => tChain3_of hφ hψ hχ σ H _ ⟨H₀, Hf₀, ρ, Hf, _, R, blF_some q, fun v H1 Hf1 R1 s1 t1 h1 => ⟨d, Has.bl_iff.mp h1, k _ _ R1 s1 t1⟩⟩
@[simp] theorem s_chain3F {φ ψ χ : D → D → Option D} {ρ : Rho} : chain3F φ ψ χ f g h i4 ρ = (f ρ).bind fun x => (g ρ).bind fun y => (φ x y).bind fun
  | .bl true => (h ρ).bind fun z => (ψ y z).bind fun
    | .bl true => (i4 ρ).bind fun w => χ z w
    | .bl false => some (.bl false)
    | _ => none
  | .bl false => some (.bl false)
  | _ => none := rfl
end
section
variable {X : Cx} {e : Expr} {f : FE} {pos : Pos}
end
section
variable {X : Cx} {e : Expr} {f : FE}
end
end FL
set_option Elab.async false
set_option linter.all false
set_option maxRecDepth 100000
set_option maxHeartbeats 4000000
namespace FL
open PySem PySem.Spec PyProof.Rows L2
section
variable {prog : Program} {w : World} {A : Around} {E : Value → Shared → Prop} {s : Shared}
end
section
variable {P : Program} {w : World} {K : PySem.W.Frag} {J1 J2 : It} {fp1 fp2 : List Addr} {i1 i2 z TI TO : Addr} {tn1 tn2 : Nat → Heap → Prop}
end
section
variable {prog : Program} {w : World} {A : Around} {E : Value → Shared → Prop} {s : Shared}
end
section
variable {X : Cx} {e1 e2 : Expr} {f1 f2 : FE} {pos : Pos} {elts : List Expr} {kx : Nat} {tp : Pos}
end
end FL
set_option Elab.async false
set_option linter.all false
set_option maxRecDepth 100000
set_option maxHeartbeats 4000000
namespace FL
open PySem PySem.Spec PyProof.Rows L2
section
variable {X : Cx} {e : Expr} {pos : Pos}
theorem boot_sorted : bootBuiltins "sorted" = some (.builtin "sorted") := by kernel_rfl
end
end FL
set_option Elab.async false
set_option linter.all false
set_option maxRecDepth 100000
set_option maxHeartbeats 4000000
namespace FL
open PySem PySem.Spec PyProof.Rows L2
section
variable {X : Cx}
end
end FL
set_option Elab.async false
set_option linter.all false
set_option maxRecDepth 100000
set_option maxHeartbeats 4000000
namespace FL
open PySem PySem.Spec PyProof.Rows L2
section
variable {prog : Program} {w : World} {A : Around} {E : Value → Shared → Prop} {s : Shared}
end
section
variable {X : Cx} {e st : Expr} {f fs : FE} {pos p2 : Pos}
end
end FL
set_option Elab.async false
set_option linter.all false
set_option maxRecDepth 100000
set_option maxHeartbeats 4000000
namespace FL
open PySem PySem.Spec PyProof.Rows L2
section
variable {O : KeyOrd} {n : Nat} {key : Nat → O.α}
def Run (O : KeyOrd) (n : Nat) (key : Nat → O.α) {α : Type} : PySem.W.KasT α → (α → Prop) → Prop
  | .ret a, Q => Q a
  | .ask i j k, Q => i < n ∧ j < n ∧ Run O n key (k (O.blt (key i) (key j))) Q
theorem run_mono {α : Type} {Q Q' : α → Prop} (hq : ∀ a, Q a → Q' a) : ∀ {t : PySem.W.KasT α}, Run O n key t Q → Run O n key t Q'
  | .ret a, h => hq a h
  | .ask i j k, h => ⟨h.1, h.2.1, run_mono hq h.2.2⟩
theorem run_bind {α β : Type} {Q : β → Prop} {f : α → PySem.W.KasT β} : ∀ {t : PySem.W.KasT α}, Run O n key t (fun a => Run O n key (f a) Q) → Run O n key (t.bind f) Q
  | .ret a, h => h
  | .ask i j k, h => ⟨h.1, h.2.1, run_bind h.2.2⟩
theorem run_wp {α : Type} {cmp : Nat → Nat → (Bool → Shared → Prop) → Shared → Prop} {s : Shared} (hc : ∀ i j (C : Bool → Shared → Prop), i < n → j < n → C (O.blt (key i) (key j)) s → cmp i j C s) {Q : α → Prop} {G : α → Shared → Prop} (hG : ∀ a, Q a → G a s) :
    ∀ {t : PySem.W.KasT α}, Run O n key t Q → t.kasWp cmp G s
  | .ret a, h => hG a h
  | .ask i j k, h => hc i j _ h.1 h.2.1 (run_wp hc hG h.2.2)
def KP (key : Nat → O.α) (p : Array Nat) (i : Nat) : O.α := key (p[i]?.getD 0)
theorem kp_getD (p : Array Nat) (i : Nat) : key (p.getD i 0) = KP key p i := by unfold KP; rw [Array.getD_eq_getD_getElem?]
theorem kp_congr {p p' : Array Nat} {i j : Nat} (h : p[i]? = p'[j]?) : KP key p i = KP key p' j := by unfold KP; rw [h]
theorem kp_mirror {p : Array Nat} {i j : Nat} (hj : j ≤ p.size) (k : Nat) : KP key (mirror p i j ((j - i) / 2)) k = if i ≤ k ∧ k < j then KP key p (i + j - 1 - k) else KP key p k := by
  have e := getElem?_mirror_all (i := i) hj k
  by_cases h1 : i ≤ k ∧ k < j
  · rw [if_pos h1] at e ⊢; exact kp_congr e
  · rw [if_neg h1] at e ⊢; exact kp_congr e
theorem kp_bubble {p : Array Nat} {src d : Nat} (hs : src < p.size) (hd : d ≤ src) (k : Nat) :
    KP key (bubble p src d) k = if k = src - d then KP key p src else if src - d < k ∧ k ≤ src then KP key p (k - 1) else KP key p k := by
  have e := getElem?_bubble hs d hd k
  by_cases h1 : k = src - d
  · rw [if_pos h1] at e ⊢; exact kp_congr e
  · rw [if_neg h1] at e ⊢
    by_cases h2 : src - d < k ∧ k ≤ src
    · rw [if_pos h2] at e ⊢; exact kp_congr e
    · rw [if_neg h2] at e ⊢; exact kp_congr e
theorem kp_mirror_equal {p : Array Nat} {i j : Nat} (hj : j ≤ p.size) (heq : ∀ k, i ≤ k → k < j → KP key p k = KP key p (j - 1)) (k : Nat) : KP key (mirror p i j ((j - i) / 2)) k = KP key p k := by
  rw [kp_mirror hj]
  split
  · rw [heq _ (by omega) (by omega), heq k (by omega) (by omega)]
  · rfl
def UpTo (key : Nat → O.α) (p : Array Nat) (k : Nat) : Prop := ∀ i j, i ≤ j → j < k → O.kle (KP key p i) (KP key p j)
def DnTo (key : Nat → O.α) (p : Array Nat) (k : Nat) : Prop := ∀ i j, i ≤ j → j < k → O.kle (KP key p j) (KP key p i)
structure Bs (n : Nat) (p : Array Nat) : Prop where
  perm : p.Perm (List.toArray (List.range n))
theorem Bs.size {p : Array Nat} (b : Bs n p) : p.size = n := by rw [b.perm.size_eq]; simp
theorem Bs.lt {p : Array Nat} (b : Bs n p) (hn : 0 < n) (i : Nat) : p.getD i 0 < n := by
  rw [Array.getD_eq_getD_getElem?]
  cases h : p[i]? with
  | none => exact hn
  | some a =>
    have hm : a ∈ p := Array.mem_of_getElem? h
    have : a ∈ List.range n := by simpa using b.perm.mem_iff.mp hm
    simpa using this
theorem Bs.rev {p : Array Nat} (b : Bs n p) (i j : Nat) : Bs n (PySem.W.kas_rev p i j) := ⟨(mirror_perm _ _ _ _).trans b.perm⟩
theorem Bs.bub {p : Array Nat} (b : Bs n p) (i j : Nat) : Bs n (bubble p i j) := ⟨(bubble_perm _ _ _).trans b.perm⟩
theorem run_ask {α : Type} {p : Array Nat} (b : Bs n p) (hn : 0 < n) {i j : Nat} {k : Bool → PySem.W.KasT α} {Q : α → Prop} (h : Run O n key (k (O.blt (KP key p i) (KP key p j))) Q) : Run O n key (.ask (p.getD i 0) (p.getD j 0) k) Q :=
  ⟨b.lt hn i, b.lt hn j, by rw [kp_getD (key := key) p i, kp_getD (key := key) p j]; exact h⟩
open KeyOrd
theorem run_asc {p : Array Nat} (b : Bs n p) : ∀ (f a : Nat), 1 ≤ a → a + f ≤ n → UpTo key p a → Run O n key (PySem.W.kas_asc p f a) fun m => a ≤ m ∧ m ≤ a + f ∧ UpTo key p m ∧ (m = a + f ∨ O.klt (KP key p m) (KP key p (m - 1)))
  | 0, a, _, _, hs => ⟨Nat.le_refl _, Nat.le_refl _, hs, .inl rfl⟩
  | f + 1, a, h1, hf, hs => by
    refine run_ask b (by omega) ?_
    cases hless : O.blt (KP key p a) (KP key p (a - 1)) with
    | true =>
      rw [if_pos rfl]
      exact ⟨Nat.le_refl _, by omega, hs, .inr hless⟩
    | false =>
      rw [if_neg (by simp)]
      refine run_mono ?_ (run_asc b f (a + 1) (by omega) (by omega) ?_)
      · rintro m ⟨x1, x2, x3, x4⟩
        exact ⟨by omega, by omega, x3, x4.imp (fun h => by omega) id⟩
      · intro i j hij hj
        by_cases hjx : j < a
        · exact hs i j hij hjx
        · have hj' : j = a := by omega
          subst hj'
          by_cases hi' : i = j
          · subst hi'; exact kle_refl _
          · exact kle_trans (hs i (j - 1) (by omega) (by omega)) hless
theorem run_tail3 {p : Array Nat} (b : Bs n p) {m : Nat} (h1 : 1 ≤ m) (hm : m ≤ n) (hs : DnTo key p m) : Run O n key (PySem.W.kas_tail3 m n p) fun r => 1 ≤ r.1 ∧ r.1 ≤ n ∧ Bs n r.2 ∧ UpTo key r.2 r.1 := by
  unfold PySem.W.kas_tail3
  have hsz : m ≤ p.size := by rw [b.size]; exact hm
  refine run_bind (run_mono ?_ (run_asc (b.rev 0 m) (n - m) m h1 (by omega) ?_))
  · rintro a ⟨x1, x2, x3, _⟩
    exact ⟨by show 1 ≤ a; omega, by show a ≤ n; omega, b.rev 0 m, x3⟩
  · intro i j hij hj
    show O.kle (KP key (mirror p 0 m ((m - 0) / 2)) i) (KP key (mirror p 0 m ((m - 0) / 2)) j)
    rw [kp_mirror hsz, kp_mirror hsz, if_pos (by omega), if_pos (by omega)]
    exact hs _ _ (by omega) (by omega)
theorem run_desc : ∀ (f : Nat) (p : Array Nat) (x q : Nat), Bs n p → 1 ≤ x → x + f ≤ n → DnTo key p x → q + 1 ≤ x → (∀ i, x - (q + 1) ≤ i → i < x → KP key p i = KP key p (x - 1)) →
    Run O n key (PySem.W.kas_desc f p x q) fun r => Bs n r.1 ∧ x ≤ r.2.1 ∧ r.2.1 ≤ x + f ∧ DnTo key r.1 r.2.1 ∧ r.2.2 + 1 ≤ r.2.1 ∧ ∀ i, r.2.1 - (r.2.2 + 1) ≤ i → i < r.2.1 → KP key r.1 i = KP key r.1 (r.2.1 - 1)
  | 0, p, x, q, b, _, _, hs, hq, he => ⟨b, Nat.le_refl _, Nat.le_refl _, hs, hq, he⟩
  | f + 1, p, x, q, b, h1, hf, hs, hq, he => by
    have hsz : x ≤ p.size := by rw [b.size]; omega
    refine run_ask b (by omega) ?_
    cases hless : O.blt (KP key p x) (KP key p (x - 1)) with
    | true =>
      rw [if_pos rfl]
      have step1 : ∀ p' : Array Nat, (∀ k, KP key p' k = KP key p k) → DnTo key p' (x + 1) := by
        intro p' hk i j hij hj
        rw [hk, hk]
        by_cases hjx : j < x
        · exact hs i j hij hjx
        · have hj' : j = x := by omega
          subst hj'
          by_cases hi' : i = j
          · subst hi'; exact kle_refl _
          · exact kle_trans (kle_of_klt hless) (hs i (j - 1) (by omega) (by omega))
      by_cases hq0 : q > 0
      · rw [if_pos hq0]
        refine run_mono ?_ (run_desc f _ (x + 1) 0 (b.rev _ _) (by omega) (by omega) (step1 _ (kp_mirror_equal hsz he)) (by omega) fun i h1 h2 => by congr 1; omega)
        rintro r ⟨x1, x2, x3, x4⟩
        exact ⟨x1, by omega, by omega, x4⟩
      · rw [if_neg hq0]
        refine run_mono ?_ (run_desc f _ (x + 1) 0 b (by omega) (by omega) (step1 _ fun _ => rfl) (by omega) fun i h1 h2 => by congr 1; omega)
        rintro r ⟨x1, x2, x3, x4⟩
        exact ⟨x1, by omega, by omega, x4⟩
    | false =>
      rw [if_neg (by simp)]
      refine run_ask b (by omega) ?_
      cases hlarger : O.blt (KP key p (x - 1)) (KP key p x) with
      | true =>
        rw [if_pos rfl]
        exact ⟨b, Nat.le_refl _, by show x ≤ _; omega, hs, hq, he⟩
      | false =>
        rw [if_neg (by simp)]
        have heqx : KP key p x = KP key p (x - 1) := kle_antisymm hlarger hless
        refine run_mono ?_ (run_desc f p (x + 1) (q + 1) b (by omega) (by omega) (fun i j hij hj => ?_) (by omega) fun i h1 h2 => ?_)
        · rintro r ⟨x1, x2, x3, x4⟩
          exact ⟨x1, by omega, by omega, x4⟩
        · by_cases hjx : j < x
          · exact hs i j hij hjx
          · have hj' : j = x := by omega
            subst hj'
            by_cases hi' : i = j
            · subst hi'; exact kle_refl _
            · rw [heqx]; exact hs i (j - 1) (by omega) (by omega)
        · rw [show x + 1 - 1 = x by omega]
          by_cases hix : i = x
          · subst hix; rfl
          · rw [heqx]; exact he i (by omega) (by omega)
theorem run_descPart {p : Array Nat} (b : Bs n p) {m : Nat} (hm : m + 1 ≤ n) (hs : DnTo key p (m + 1)) : Run O n key (PySem.W.kas_descPart m n p) fun r => 1 ≤ r.1 ∧ r.1 ≤ n ∧ Bs n r.2 ∧ UpTo key r.2 r.1 := by
  unfold PySem.W.kas_descPart
  refine run_bind (run_mono ?_ (run_desc (n - (m + 1)) p (m + 1) 0 b (by omega) (by omega) hs (by omega) fun i h1 h2 => by congr 1; omega))
  rintro ⟨p', x, q⟩ ⟨x1, x2, x3, x4, x5, x6⟩
  dsimp only at x1 x2 x3 x4 x5 x6 ⊢
  have hsz : x ≤ p'.size := by rw [x1.size]; omega
  by_cases hq : q > 0
  · rw [if_pos hq]
    refine run_tail3 (x1.rev _ _) (by omega) (by omega) ?_
    intro i j hij hj
    show O.kle (KP key (mirror p' _ _ _) j) (KP key (mirror p' _ _ _) i)
    rw [kp_mirror_equal hsz x6, kp_mirror_equal hsz x6]
    exact x4 i j hij hj
  · rw [if_neg hq]
    exact run_tail3 x1 (by omega) (by omega) x4
theorem run_count {p : Array Nat} (b : Bs n p) (hn : 1 ≤ n) : Run O n key (PySem.W.kas_count n p) fun r => 1 ≤ r.1 ∧ r.1 ≤ n ∧ Bs n r.2 ∧ UpTo key r.2 r.1 := by
  unfold PySem.W.kas_count
  refine run_bind (run_mono ?_ (run_asc b (n - 1) 1 (Nat.le_refl _) (by omega) fun i j hij hj => by have : i = j := (by omega); subst this; exact kle_refl _))
  rintro m ⟨x1, x2, x3, x4⟩
  have hb2 : m ≤ n := by omega
  by_cases hmn : m = n
  · rw [if_pos (by simpa using hmn)]
    exact ⟨x1, hb2, b, x3⟩
  · rw [if_neg (by simpa using hmn)]
    have hlt : O.klt (KP key p m) (KP key p (m - 1)) := x4.resolve_left (by omega)
    by_cases hgt : m > 1
    · rw [if_pos hgt]
      refine run_ask b (by omega) ?_
      cases hrose : O.blt (KP key p 0) (KP key p (m - 1)) with
      | true =>
        rw [if_pos rfl]
        exact ⟨x1, hb2, b, x3⟩
      | false =>
        rw [if_neg (by simp)]
        have hsz : m ≤ p.size := by rw [b.size]; omega
        have hall : ∀ k, 0 ≤ k → k < m → KP key p k = KP key p (m - 1) := by
          intro k _ hk
          have a1 := x3 0 k (by omega) hk
          have a2 := x3 k (m - 1) (by omega) (by omega)
          exact kle_antisymm a2 (kle_trans hrose a1)
        refine run_descPart (b.rev _ _) (by omega) ?_
        intro i j hij hj
        show O.kle (KP key (mirror p _ _ _) j) (KP key (mirror p _ _ _) i)
        rw [kp_mirror_equal hsz hall, kp_mirror_equal hsz hall]
        by_cases hjn : j < m
        · rw [hall i (by omega) (by omega), hall j (by omega) hjn]; exact kle_refl _
        · have hj' : j = m := by omega
          subst hj'
          by_cases hi' : i = j
          · subst hi'; exact kle_refl _
          · rw [hall i (by omega) (by omega)]; exact kle_of_klt hlt
    · rw [if_neg hgt]
      have hm1 : m = 1 := by omega
      subst hm1
      refine run_descPart b (by omega) ?_
      intro i j hij hj
      by_cases hi' : i = j
      · subst hi'; exact kle_refl _
      · have hi0 : i = 0 := by omega
        have hj1 : j = 1 := by omega
        subst hi0; subst hj1
        exact kle_of_klt hlt
theorem run_place {p : Array Nat} (b : Bs n p) {k : Nat} (hk : k < n) (hs : UpTo key p k) : ∀ (f l r : Nat), l ≤ r → r ≤ k → r - l ≤ f → (∀ i, i < l → O.kle (KP key p i) (KP key p k)) → (∀ i, r ≤ i → i < k → O.klt (KP key p k) (KP key p i)) →
    Run O n key (PySem.W.kas_place p k f l r) fun l' => l' ≤ k ∧ (∀ i, i < l' → O.kle (KP key p i) (KP key p k)) ∧ ∀ i, l' ≤ i → i < k → O.klt (KP key p k) (KP key p i)
  | 0, l, r, hlr, hrk, hf, hlo, hhi => by
    have : l = r := by omega
    subst this
    exact ⟨hrk, hlo, hhi⟩
  | f + 1, l, r, hlr, hrk, hf, hlo, hhi => by
    unfold PySem.W.kas_place
    by_cases hge : l ≥ r
    · rw [if_pos hge]
      have : l = r := by omega
      subst this
      exact ⟨hrk, hlo, hhi⟩
    · rw [if_neg hge]
      refine run_ask b (by omega) ?_
      cases hless : O.blt (KP key p k) (KP key p ((l + r) / 2)) with
      | true =>
        rw [if_pos rfl]
        exact run_place b hk hs f l ((l + r) / 2) (by omega) (by omega) (by omega) hlo fun i h1 h2 => klt_of_klt_of_kle hless (hs _ _ h1 h2)
      | false =>
        rw [if_neg (by simp)]
        exact run_place b hk hs f ((l + r) / 2 + 1) r (by omega) (by omega) (by omega) (fun i h1 => kle_trans (hs i ((l + r) / 2) (by omega) (by omega)) (show O.kle _ _ from hless)) hhi
theorem run_bin : ∀ (f : Nat) (p : Array Nat) (k : Nat), Bs n p → k + f = n → UpTo key p k → Run O n key (PySem.W.kas_bin f p k) fun p' => Bs n p' ∧ UpTo key p' n
  | 0, p, k, b, hk, hs => ⟨b, by rw [← hk]; exact hs⟩
  | f + 1, p, k, b, hk, hs => by
    unfold PySem.W.kas_bin
    refine run_bind (run_mono ?_ (run_place b (by omega) hs k 0 k (by omega) (Nat.le_refl _) (by omega) (fun i hi => by omega) fun i h1 h2 => by omega))
    rintro l ⟨hlk, hlo, hhi⟩
    refine run_bin f _ (k + 1) (b.bub _ _) (by omega) ?_
    have hks : k < p.size := by rw [b.size]; omega
    intro i j hij hj
    rw [kp_bubble hks (by omega), kp_bubble hks (by omega), show k - (k - l) = l by omega]
    repeat' split
    all_goals first
      | (exfalso; omega)
      | exact kle_refl _
      | exact hlo _ (by omega)
      | exact kle_of_klt (hhi _ (by omega) (by omega))
      | exact hs _ _ (by omega) (by omega)
theorem run_sort (hn : 1 ≤ n) : Run O n key (PySem.W.kas_sort n) fun p => Bs n p ∧ UpTo key p n := by
  unfold PySem.W.kas_sort
  refine run_bind (run_mono ?_ (run_count ⟨.refl _⟩ hn))
  rintro ⟨m, p⟩ ⟨x1, x2, x3, x4⟩
  dsimp only at x1 x2 x3 x4 ⊢
  by_cases h : m < n
  · rw [if_pos h, show max m 1 = m by omega]
    exact run_bin (n - m) p m x3 (by omega) x4
  · rw [if_neg h]
    exact ⟨x3, by rw [show n = m by omega]; exact x4⟩
end
end FL
set_option Elab.async false
set_option linter.all false
set_option maxRecDepth 100000
set_option maxHeartbeats 4000000
namespace FL
open PySem PySem.Spec PyProof.Rows L2
open PySem.AutoSeq1 (wpAny_loadPart')
open PySem.MeetsSeq PySem.MeetsSeq2 PySem.MeetsSeq3
def ltP (x y : Int × Int) : Bool := decide (x.1 < y.1) || (decide (x.1 = y.1) && decide (x.2 < y.2))
end FL
set_option Elab.async false
set_option linter.all false
set_option maxRecDepth 100000
set_option maxHeartbeats 4000000
namespace FL
open PySem PySem.Spec PyProof.Rows L2
theorem ksk_zip2 (vs : List Value) : (vs.toArray.zip vs.toArray).toList = vs.zip vs := by simp
section
variable {prog : Program} {w : World} {A : Around} {E : Value → Shared → Prop} {s : Shared}
theorem map_range_getD (vs : List Value) : (List.range vs.length).map (fun i => vs.getD i Value.none) = vs := by
  apply List.ext_getElem
  · simp
  · intro i h1 h2
    simp [h2]
theorem list_sort_T {O : KeyOrd} {key : Nat → O.α} {κ : SortKind} {a : Addr} {vs : List Value} {n : Nat} {P : Fin → Shared → Prop} (ho : s.heap.get? a = some (seqObj "list" vs.toArray n)) (h64 : vs.length < 64)
    (hk : 2 ≤ vs.length → ∀ h', (∀ b o, b ≠ a → s.heap.get? b = some o → h'.get? b = some o) →
      (∀ (Q : SortKind → Shared → Prop) (E : Value → Shared → Prop), Q κ { s with heap := h' } → wpAny (model prog w) A (keyKind' vs.toArray) Q E { s with heap := h' }) ∧
      ∀ i j (Q : Bool → Shared → Prop), i < vs.length → j < vs.length → Q (O.blt (key i) (key j)) { s with heap := h' } → wpAny (model prog w) A (keyLt' κ (vs.getD i .none) (vs.getD j .none)) Q (fun _ _ => False) { s with heap := h' })
    (h : ∀ p : Array Nat, Bs vs.length p → UpTo key p vs.length → P (.done (.ret .none)) { s with heap := sortedHeap s.heap a vs (List.toArray (p.toList.map fun i => vs.getD i .none)) }) :
    wpAny (model prog w) A (Builtin.«list.sort» ⟨[.ref a], []⟩) P E s := by
  rw [list_sort_plain]
  have ha : a < s.heap.objs.size := Heap.lt_size ho
  refine wpAny_bind (listItems_at ho rfl ?_)
  refine wpAny_bind (listUpdate_at ho rfl ?_)
  obtain ⟨e1, ho1⟩ : ∃ e1, (s.heap.update a (Obj.mapSeq fun _ => #[])).get? a = some (seqObj "list" #[] e1) := ⟨_, get?_update_seq ho (fun _ => #[])⟩
  refine wpAny_bind (seqEpoch_at ho1 rfl ?_)
  refine wpAny_bind (wpAny_newTuple ?_)
  refine wpAny_bind (wpAny_newList ?_)
  refine wpAny_holding ?_
  have ho6 : (((s.heap.update a (Obj.mapSeq fun _ => #[])).push (seqObj "tuple" vs.toArray 0)).push (seqObj "list" #[] 0)).get? a = some (seqObj "list" #[] e1) := by
    rw [Heap.get?_push_ne _ _ _ (by rw [size_push', Heap.size_update]; exact Nat.ne_of_lt (Nat.lt_succ_of_lt ha)), Heap.get?_push_ne _ _ _ (by rw [Heap.size_update]; exact Nat.ne_of_lt ha)]
    exact ho1
  have hkeep : ∀ b o, b ≠ a → s.heap.get? b = some o → (((s.heap.update a (Obj.mapSeq fun _ => #[])).push (seqObj "tuple" vs.toArray 0)).push (seqObj "list" #[] 0)).get? b = some o := fun b o hb x =>
    Heap.get?_push_of_some _ (Heap.get?_push_of_some _ (by rw [Heap.get?_update_ne _ _ _ _ hb]; exact x))
  show wpAny (model prog w) A _ P E { s with heap := ((s.heap.update a (Obj.mapSeq fun _ => #[])).push (seqObj "tuple" vs.toArray 0)).push (seqObj "list" #[] 0) }
  dsimp only
  have hsz : vs.toArray.size = vs.length := by simp
  by_cases h2 : vs.toArray.size < 2
  · rw [if_pos h2, if_pos h2]
    refine wpAny_bind (wpAny_pure ?_)
    rw [StateT.run_pure]
    refine wpAny_bind (wpAny_pure ?_)
    dsimp only
    refine wpAny_bind (seqEpoch_at ho6 rfl ?_)
    refine wpAny_bind (listUpdate_at ho6 rfl ?_ (hsz2 := by rw [Array.size_map]; show (pairsOf vs).size ≤ _; rw [pairsOf_size, sizeLine_eq]; omega))
    simp only [bne_self_eq_false, Bool.false_eq_true, if_false]
    have fin := h (List.toArray (List.range vs.length)) ⟨.refl _⟩ (fun i j hij hj => by
      have : i = j := by omega
      subst this; exact KeyOrd.kle_refl _)
    have eo : (vs.toArray.zip vs.toArray).map (·.2) = List.toArray ((List.toArray (List.range vs.length)).toList.map fun i => vs.getD i .none) := by
      apply Array.toList_inj.mp
      rw [Array.toList_map, ksk_zip2]
      have e1 : (vs.zip vs).map (·.2) = vs := List.map_snd_zip (Nat.le_refl _)
      rw [e1]
      exact (map_range_getD vs).symm
    rw [← eo] at fin
    exact wpAny_pure fin
  · rw [if_neg h2, if_neg h2]
    have h2' : 2 ≤ vs.length := by omega
    obtain ⟨k1, k2⟩ := hk h2' _ hkeep
    refine wpAny_bind (k1 _ _ ?_)
    refine wpAny_bind (wpAny_mono (PySem.W.kat_run (vs := vs) (ks := vs) (κ := κ) (Q := fun st' s' => ∃ p : Array Nat, arrOf st' = p.map (PySem.W.kas_item (vs.toArray.zip vs.toArray)) ∧ failedOf st' = none ∧ (Bs vs.length p ∧ UpTo key p vs.length) ∧ s' = { s with heap := ((s.heap.update a (Obj.mapSeq fun _ => #[])).push (seqObj "tuple" vs.toArray 0)).push (seqObj "list" #[] 0) })
      (G := fun p s' => (Bs vs.length p ∧ UpTo key p vs.length) ∧ s' = { s with heap := ((s.heap.update a (Obj.mapSeq fun _ => #[])).push (seqObj "tuple" vs.toArray 0)).push (seqObj "list" #[] 0) })
      rfl h2' h64 (fun p st' s' a1 a2 a3 a4 => ⟨p, a2, a3, a4⟩) (run_wp (fun i j C hi hj hC => k2 i j C hi hj hC) (fun p hp => ⟨hp, rfl⟩) (run_sort (by omega)))) ?_ fun _ _ e => e)
    rintro ⟨⟨⟩, st'⟩ s' ⟨p, har, hf, hp, rfl⟩
    have hout := PySem.W.kat_snds rfl har
    dsimp only
    rw [hout]
    refine wpAny_bind (seqEpoch_at ho6 rfl ?_)
    refine wpAny_bind (listUpdate_at ho6 rfl ?_ (hsz2 := by rw [List.size_toArray, List.length_map, Array.length_toList, hp.1.size, sizeLine_eq]; omega))
    rw [hf]
    simp only [bne_self_eq_false, Bool.false_eq_true, if_false]
    exact wpAny_pure (h p hp.1 hp.2)
theorem sorted_T {O : KeyOrd} {key : Nat → O.α} {κ : SortKind} {l : Addr} {vs : List Value} {Q : Value → Shared → Prop} (hl : s.heap.IsList l vs.toArray) (h64 : vs.length < 64)
    (hk : 2 ≤ vs.length → ∀ h', (∀ b o, s.heap.get? b = some o → h'.get? b = some o) →
      (∀ (Q : SortKind → Shared → Prop) (E : Value → Shared → Prop), Q κ { s with heap := h' } → wpAny (model prog w) A.in1.in1 (keyKind' vs.toArray) Q E { s with heap := h' }) ∧
      ∀ i j (Q : Bool → Shared → Prop), i < vs.length → j < vs.length → Q (O.blt (key i) (key j)) { s with heap := h' } → wpAny (model prog w) A.in1.in1 (keyLt' κ (vs.getD i .none) (vs.getD j .none)) Q (fun _ _ => False) { s with heap := h' })
    (h : ∀ p : Array Nat, Bs vs.length p → UpTo key p vs.length → Q (.ref (s.heap.objs.size + 1)) { s with heap := sortedAll s.heap vs (List.toArray (p.toList.map fun i => vs.getD i .none)) }) :
    wpAny (model prog w) A (call (.builtin "sorted") [.ref l]) Q E s := by
  refine Calls.call_function_entry kind_sorted plain_sorted entry_sorted (args_sorted1 _) ?_
  unfold Builtin.«sorted»
  refine wpAny_bind (m := checkCount "sorted" 1 1 _) (wpAny_pure ?_)
  refine wpAny_bind (collect_list hl ?_)
  refine wpAny_bind (wpAny_newList ?_)
  have hsz : ((s.heap.push (seqObj "list" #[] 0)).update s.heap.objs.size (Obj.mapSeq (· ++ vs.toArray))).objs.size = s.heap.objs.size + 1 := by
    rw [Heap.size_update, size_push']
  have hoL : (((s.heap.push (seqObj "list" #[] 0)).update s.heap.objs.size (Obj.mapSeq (· ++ vs.toArray))).push (seqObj "list" vs.toArray 0)).get? (s.heap.objs.size + 1) = some (seqObj "list" vs.toArray 0) := by
    rw [← hsz]; exact Heap.get?_push_size _ rfl
  show wpAny _ _ _ _ _ { s with heap := ((s.heap.push (seqObj "list" #[] 0)).update s.heap.objs.size (Obj.mapSeq (· ++ vs.toArray))).push (seqObj "list" vs.toArray 0) }
  rw [hsz]
  have hkp : ∀ b o, s.heap.get? b = some o → b ≠ s.heap.objs.size + 1 ∧ (((s.heap.push (seqObj "list" #[] 0)).update s.heap.objs.size (Obj.mapSeq (· ++ vs.toArray))).push (seqObj "list" vs.toArray 0)).get? b = some o := fun b o x => by
    have hlt : b < s.heap.objs.size := Heap.lt_size x
    refine ⟨Nat.ne_of_lt (Nat.lt_succ_of_lt hlt), ?_⟩
    rw [Heap.get?_push_ne _ _ _ (by rw [hsz]; exact Nat.ne_of_lt (Nat.lt_succ_of_lt hlt)), Heap.get?_update_ne _ _ _ _ (Nat.ne_of_lt hlt), Heap.get?_push_ne _ _ _ (Nat.ne_of_lt hlt)]
    exact x
  refine wpAny_bind (wpAny_holding (wpAny_call_entry slot_list_sort ⟨_, hoL, rfl⟩ entry_list_sort (list_sort_T (key := key) hoL h64 (fun h2 h' hh => hk h2 h' fun b o x => hh b o (hkp b o x).1 (hkp b o x).2) fun p a1 a2 => ⟨_, rfl, ?_⟩) (args_list_sort _)))
  exact wpAny_pure ⟨_, rfl, h p a1 a2⟩
end
end FL
set_option Elab.async false
set_option linter.all false
set_option maxRecDepth 100000
set_option maxHeartbeats 4000000
namespace FL
open PySem PySem.Spec PyProof.Rows L2
def ltR : List (Int × Int) → List (Int × Int) → Bool
  | [], [] => false
  | [], _ :: _ => true
  | _ :: _, [] => false
  | x :: xs, y :: ys => if x = y then ltR xs ys else ltP x y
theorem ltR_irrefl : ∀ a, ltR a a = false
  | [] => rfl
  | x :: xs => by unfold ltR; rw [if_pos rfl]; exact ltR_irrefl xs
theorem ltP_iff {x y : Int × Int} : ltP x y = true ↔ x.1 < y.1 ∨ (x.1 = y.1 ∧ x.2 < y.2) := by unfold ltP; simp
theorem pair_ne {x y : Int × Int} (h : x ≠ y) : x.1 ≠ y.1 ∨ x.2 ≠ y.2 := by
  by_cases a : x.1 = y.1
  · exact .inr fun b => h (Prod.ext a b)
  · exact .inl a
theorem ltR_tri : ∀ a b, ltR a b = false → ltR b a = false → a = b
  | [], [], _, _ => rfl
  | [], _ :: _, h, _ => by cases h
  | _ :: _, [], _, h => by cases h
  | x :: xs, y :: ys, h, h' => by
    unfold ltR at h h'
    by_cases e : x = y
    · subst e
      rw [if_pos rfl] at h h'
      rw [ltR_tri xs ys h h']
    · rw [if_neg e] at h
      rw [if_neg (Ne.symm e)] at h'
      have h1 : ¬ (x.1 < y.1 ∨ (x.1 = y.1 ∧ x.2 < y.2)) := fun q => by rw [ltP_iff.mpr q] at h; cases h
      have h2 : ¬ (y.1 < x.1 ∨ (y.1 = x.1 ∧ y.2 < x.2)) := fun q => by rw [ltP_iff.mpr q] at h'; cases h'
      rcases pair_ne e with q | q <;> omega
theorem ltR_trans : ∀ a b c, ltR a b = true → ltR b c = true → ltR a c = true
  | [], [], _, h, _ => by cases h
  | [], _ :: _, [], _, h => by cases h
  | [], _ :: _, _ :: _, _, _ => rfl
  | _ :: _, [], _, h, _ => by cases h
  | _ :: _, _ :: _, [], _, h => by cases h
  | x :: xs, y :: ys, z :: zs, h, h' => by
    unfold ltR at h h' ⊢
    by_cases e : x = y
    · subst e
      rw [if_pos rfl] at h
      by_cases e' : x = z
      · subst e'
        rw [if_pos rfl] at h' ⊢
        exact ltR_trans xs ys zs h h'
      · rw [if_neg e'] at h' ⊢
        exact h'
    · rw [if_neg e] at h
      by_cases e' : y = z
      · subst e'
        rw [if_neg e]
        exact h
      · rw [if_neg e'] at h'
        have h1 := ltP_iff.mp h
        have h2 := ltP_iff.mp h'
        have h3 : x ≠ z := fun q => by subst q; omega
        rw [if_neg h3]
        exact ltP_iff.mpr (by omega)
def rowOrd : KeyOrd where
  α := List (Int × Int)
  blt := ltR
  irrefl := ltR_irrefl
  trans := ltR_trans
  negTrans := fun a b c h => by
    cases h1 : ltR a b with
    | true => exact .inl rfl
    | false =>
      refine .inr ?_
      cases h2 : ltR b a with
      | true => exact ltR_trans b a c h2 h
      | false => rw [← ltR_tri a b h1 h2]; exact h
  total := ltR_tri
theorem perm_eqK {α : Type} {r : α → α → Prop} (as : ∀ a b, r a b → r b a → a = b) : ∀ {a b : List α}, a.Perm b → a.Pairwise r → b.Pairwise r → a = b
  | [], b, h, _, _ => (List.nil_perm.mp h).symm
  | x :: a, [], h, _, _ => by have := h.length_eq; simp at this
  | x :: a, y :: b, h, ha, hb => by
    rw [List.pairwise_cons] at ha hb
    have e : x = y := by
      have h1 : x ∈ y :: b := h.subset List.mem_cons_self
      have h2 : y ∈ x :: a := h.symm.subset List.mem_cons_self
      rcases List.mem_cons.mp h1 with h1 | h1
      · exact h1
      · rcases List.mem_cons.mp h2 with h2 | h2
        · exact h2.symm
        · exact as _ _ (ha.1 y h2) (hb.1 x h1)
    subst e
    rw [perm_eqK as h.cons_inv ha.2 hb.2]
def insR (x : List (Int × Int)) : List (List (Int × Int)) → List (List (Int × Int))
  | [] => [x]
  | y :: l => if ltR y x = true then y :: insR x l else x :: y :: l
def sortR : List (List (Int × Int)) → List (List (Int × Int))
  | [] => []
  | x :: l => insR x (sortR l)
theorem insR_perm (x : List (Int × Int)) : ∀ l, (insR x l).Perm (x :: l)
  | [] => .refl _
  | y :: l => by
    unfold insR
    split
    · exact ((insR_perm x l).cons y).trans (.swap x y l)
    · exact .refl _
theorem sortR_perm : ∀ l, (sortR l).Perm l
  | [] => .refl _
  | x :: l => (insR_perm x (sortR l)).trans ((sortR_perm l).cons x)
theorem insR_sorted (x : List (Int × Int)) : ∀ {l : List (List (Int × Int))}, l.Pairwise rowOrd.kle → (insR x l).Pairwise rowOrd.kle
  | [], _ => List.pairwise_singleton _ _
  | y :: l, h => by
    have h' := List.pairwise_cons.mp h
    unfold insR
    split
    · rename_i c
      refine List.pairwise_cons.mpr ⟨fun z hz => ?_, insR_sorted x h'.2⟩
      rcases List.mem_cons.mp ((insR_perm x l).subset hz) with rfl | hz
      · exact KeyOrd.kle_of_klt c
      · exact h'.1 z hz
    · rename_i c
      have c' : rowOrd.kle x y := by show ltR y x = false; simpa using c
      refine List.pairwise_cons.mpr ⟨fun z hz => ?_, h⟩
      rcases List.mem_cons.mp hz with rfl | hz
      · exact c'
      · exact KeyOrd.kle_trans c' (h'.1 z hz)
theorem sortR_sorted : ∀ l, (sortR l).Pairwise rowOrd.kle
  | [] => .nil
  | x :: l => insR_sorted x (sortR_sorted l)
theorem sortR_eq {a b : List (List (Int × Int))} (h : a.Perm b) (ha : a.Pairwise rowOrd.kle) : sortR b = a := perm_eqK (fun _ _ => KeyOrd.kle_antisymm) ((sortR_perm b).trans h.symm) (sortR_sorted b) ha
theorem sortR_same {a b : List (List (Int × Int))} (h : a.Perm b) : sortR a = sortR b := sortR_eq ((sortR_perm b).trans h.symm) (sortR_sorted b)
section
variable {X : Cx} {pins : List (Addr × Obj)} {σ : St} {H : Hp} {s : Shared} {A : Around}
end
end FL
set_option Elab.async false
set_option linter.all false
set_option maxRecDepth 100000
set_option maxHeartbeats 4000000
namespace FL
open PySem PySem.Spec PyProof.Rows L2
section
variable {X : Cx} {pins : List (Addr × Obj)} {σ : St} {H : Hp} {s : Shared}
theorem map_range_rows (rs : List (List (Int × Int))) : (List.range rs.length).map (fun i => rs.getD i []) = rs := by
  apply List.ext_getElem
  · simp
  · intro i h1 h2
    simp [h2]
theorem up_sorted {rs : List (List (Int × Int))} {p : Array Nat} (b : Bs rs.length p) (u : UpTo (O := rowOrd) (fun i => rs.getD i []) p rs.length) : sortR rs = p.toList.map fun i => rs.getD i [] := by
  have hp : p.toList.Perm (List.range rs.length) := by simpa using Array.perm_iff_toList_perm.mp b.perm
  refine sortR_eq ?_ ?_
  · have := hp.map fun i => rs.getD i []
    rwa [map_range_rows] at this
  · show List.Pairwise (fun a b : List (Int × Int) => ltR b a = false) (List.map (fun i => rs.getD i []) p.toList)
    rw [List.pairwise_iff_getElem]
    intro i j hi hj hij
    have hs := b.size
    simp only [List.length_map, Array.length_toList] at hi hj
    have q : ltR (KP (O := rowOrd) (fun i => rs.getD i []) p j) (KP (O := rowOrd) (fun i => rs.getD i []) p i) = false := u i j (by omega) (by omega)
    unfold KP at q
    rw [Array.getElem?_eq_getElem hi, Array.getElem?_eq_getElem hj] at q
    simpa using q
end
section
variable {X : Cx} {e : Expr} {pos : Pos} {kk : Nat}
end
end FL
set_option Elab.async false
set_option linter.all false
set_option maxRecDepth 100000
set_option maxHeartbeats 4000000
namespace FL
open PySem PySem.Spec PyProof.Rows L2
section
variable {α : Type} {P : List α → Prop}
theorem all0 (k : P []) : ∀ us : List α, us.length = 0 → P us
  | [], _ => k
theorem all1 (k : ∀ a, P [a]) : ∀ us : List α, us.length = 1 → P us
  | a :: us, h => all0 (P := fun us => P (a :: us)) (k a) us (Nat.succ.inj h)
theorem all2 (k : ∀ a b, P [a, b]) : ∀ us : List α, us.length = 2 → P us
  | a :: us, h => all1 (P := fun us => P (a :: us)) (k a) us (Nat.succ.inj h)
theorem all3 (k : ∀ a b c, P [a, b, c]) : ∀ us : List α, us.length = 3 → P us
  | a :: us, h => all2 (P := fun us => P (a :: us)) (k a) us (Nat.succ.inj h)
end
def keyOf : D → Option Key
  | .int i => some (.inl i)
  | .str x => some (.inr x)
  | _ => none
def keysOf : List D → Option (List Key)
  | [] => some []
  | d :: ds => (keyOf d).bind fun k => (keysOf ds).bind fun ks => some (k :: ks)
def keyD : Key → D
  | .inl i => .int i
  | .inr x => .str x
theorem keysOf_some : ∀ {ds : List D} {ks : List Key}, keysOf ds = some ks → ds = ks.map keyD
  | [], ks, h => by cases h; rfl
  | d :: ds, ks, h => by
    unfold keysOf at h
    obtain ⟨k, h1, h⟩ := Option.bind_eq_some_iff.mp h
    obtain ⟨r, h2, h⟩ := Option.bind_eq_some_iff.mp h
    cases h
    rw [keysOf_some h2, List.map_cons]
    congr 1
    unfold keyOf at h1
    split at h1 <;> cases h1 <;> rfl
theorem hasL_keys {K : PySem.W.Frag} {H : Hp} : ∀ {ks : List Key} {xs : List V}, HasL K H (ks.map keyD) xs → xs = ks.map kV
  | [], xs, h => HasL.nil_iff.mp h
  | k :: ks, xs, h => by
    obtain ⟨x, r, rfl, h1, h2⟩ := HasL.cons_iff.mp h
    rw [hasL_keys h2, List.map_cons]
    congr 1
    cases k with
    | inl i => exact Has.int_iff.mp h1
    | inr z => exact Has.str_iff.mp h1
theorem keys_hasL {K : PySem.W.Frag} {H : Hp} : ∀ (ks : List Key), HasL K H (ks.map keyD) (ks.map kV)
  | [] => .nil
  | k :: ks => .cons (by cases k with
    | inl i => exact Has.int_iff.mpr rfl
    | inr z => exact Has.str_iff.mpr rfl) (keys_hasL ks)
def putD {κ : Type} [DecidableEq κ] (kvs : List (κ × D)) (k : κ) (v : D) : List (κ × D) :=
  if (kvs.any fun kv => decide (kv.1 = k)) = true then kvs.map (fun kv => if kv.1 = k then (kv.1, v) else kv) else kvs ++ [(k, v)]
theorem KVs.any {K : PySem.W.Frag} {H : Hp} {κ : Type} [DecidableEq κ] {kvs : List (κ × D)} {ws : List (κ × V)} (r : KVs K H kvs ws) (k : κ) : (kvs.any fun kv => decide (kv.1 = k)) = ws.any fun kv => decide (kv.1 = k) := by
  induction r with
  | nil => rfl
  | cons h t ih => rw [List.any_cons, List.any_cons, ih, h.1]
theorem KVs.putAll {K : PySem.W.Frag} {H : Hp} {κ : Type} [DecidableEq κ] {kvs : List (κ × D)} {ws : List (κ × V)} (r : KVs K H kvs ws) (k : κ) {d : D} {v : V} (hv : Has K H d v) :
    KVs K H (kvs.map (fun kv => if kv.1 = k then (kv.1, d) else kv)) (ws.map (fun kv => if kv.1 = k then (kv.1, v) else kv)) := by
  induction r with
  | nil => exact .nil
  | @cons p q ps qs h t ih =>
    rw [List.map_cons, List.map_cons]
    refine .cons ?_ ih
    by_cases e : p.1 = k
    · rw [if_pos e, if_pos (h.1.symm.trans e)]; exact ⟨h.1, hv⟩
    · rw [if_neg e, if_neg (fun z => e (h.1.trans z))]; exact h
theorem KVs.snoc {K : PySem.W.Frag} {H : Hp} {κ : Type} {kvs : List (κ × D)} {ws : List (κ × V)} (r : KVs K H kvs ws) {k : κ} {d : D} {v : V} (hv : Has K H d v) : KVs K H (kvs ++ [(k, d)]) (ws ++ [(k, v)]) := by
  induction r with
  | nil => exact .cons ⟨rfl, hv⟩ .nil
  | cons h t ih => exact .cons h ih
theorem KVs.put {K : PySem.W.Frag} {H : Hp} {κ : Type} [DecidableEq κ] {kvs : List (κ × D)} {ws : List (κ × V)} (r : KVs K H kvs ws) (k : κ) {d : D} {v : V} (hv : Has K H d v) : KVs K H (putD kvs k d) (putK ws k v) := by
  unfold putD putK
  rw [r.any k]
  split
  · exact r.putAll k hv
  · exact r.snoc hv
theorem KVs.length {K : PySem.W.Frag} {H : Hp} {κ : Type} {kvs : List (κ × D)} {ws : List (κ × V)} (r : KVs K H kvs ws) : kvs.length = ws.length := Paired.length r
section
variable {X : Cx} {pos : Pos} {kk : Nat}
def dnewF (i : Nat) : FS := fun ρ => some (.nx (ρ.set i (.oT [])))
theorem ds_dnew {x : Str} {pos' dpos : Pos} (i : Nat) (hN : X.N.Nodup) (hi : X.N[i]? = some x := by rfl) (hx : Loc X.env.scope x := by first | exact Or.inl rfl | exact Or.inr rfl) (hs : swapsWith (.Dict [] [] dpos) (some (.Name x pos')) pos.line X.env = pure false := by rfl)
    (hf : X.fn x = true ∨ X.env.scope.names.lookup x = some .local := by first | exact .inl rfl | exact .inr rfl | assumption) : DS X (.Assign [.Name x pos'] (.Dict [] [] dpos) pos) (dnewF i) :=
  ps_imp (ps_set hN hi hx (pe_dnewT (pos := dpos)) hs hf) fun D' σ H ⟨H₀, Hf₀, ρ, Hf, o, R, q, k⟩ => by
    cases q
    intro p hp
    refine k _ _ _ ((R.layN hp).setOwn i rfl ⟨[], upd_same, .nil⟩ (R.sf.free hp) (R.s0.free hp) ?_) sameR
    intro j sl z o z'
    obtain ⟨b, p1, p2, _⟩ := R.ow j sl z o
    rw [p1] at z'; cases z'
    obtain ⟨ob, q'⟩ := p2.there o
    rw [q'] at hp; cases hp
def dputF (i : Nat) (fa : FA) (g : FE) : FS := fun ρ => (g ρ).bind fun v => (fa ρ).bind fun ks => match ρ[i]? with
  | some (.oT kvs) => (keysOf ks).bind fun k => if kvs.length < sizeLine ∧ ks.length ≤ sizeLine then some (.nx (ρ.set i (.oT (putD kvs k v)))) else none
  | _ => none
theorem ds_dput {x : Str} {es : List Expr} {x1} {p1 tp sp : Pos} {value : Expr} {fa : FA} {g : FE} (i : Nat) (hr : Room kk X.A) (hv : DE X value g) (ha : DA X es fa) (hN : X.N[i]? = some x := by rfl) (hvis : Vis X.env.scope x := by first | exact Or.inl rfl | exact Or.inr (Or.inl rfl) | exact Or.inr (Or.inr rfl))
    (hd : (x == ("__debug__" : Str)) = false := by decide) (hcd : (x == ("__classdict__" : Str)) = false := by decide)
    (hs : swapsWith value (some (.Subscript (.Name x p1) (.Tuple es x1 tp) sp)) pos.line X.env = pure false := by rfl) :
    DS X (.Assign [.Subscript (.Name x p1) (.Tuple es x1 tp) sp] value pos) (dputF i fa g) :=
  ps_imp (ps_dput (by have := hr.un; omega) (pe_var hN hvis hd hcd) (pe_tup ha) hv hs) fun D' σ H ⟨H₀, Hf₀, ρ, Hf, o, R, q, k⟩ => by
    unfold dputF at q
    obtain ⟨v, e1, q⟩ := Option.bind_eq_some_iff.mp q
    obtain ⟨ks, e2, q⟩ := Option.bind_eq_some_iff.mp q
    split at q
    · rename_i kvs el
      obtain ⟨kk, e3, q⟩ := Option.bind_eq_some_iff.mp q
      split at q
      · rename_i hz
        cases q
        obtain ⟨a, p1, _⟩ := R.ow i _ el rfl
        refine ⟨H₀, Hf₀, ρ, Hf, v, R, e1, fun v1 H1 Hf1 R1 s1 t1 h1 => ⟨_, p1, H₀, Hf₀, ρ, Hf1, ks, R1, e2, fun vs H2 Hf2 R2 s2 t2 h2 => ⟨by rw [h2.length]; exact hz.2, fun p hp => ?_⟩⟩⟩
        have R3 := R2.lay (o := .tup vs) hp
        obtain ⟨a', r1, ⟨ws, r2, r3⟩, r4, r5⟩ := R3.ow i _ el rfl
        rw [p1] at r1; cases r1
        rw [keysOf_some e3] at h2
        have ev := hasL_keys h2
        have hzw : ws.length < sizeLine := by rw [← r3.length]; exact hz.1
        refine ⟨a, _, rfl, DPut.t r2 (by rw [upd_same, ev]) hzw, ?_⟩
        have sm : Same Hf1 (upd Hf2 p (.tup vs)) := t2.trans (same_upd (R2.sf.free hp))
        exact k _ _ _ (R3.updOwn el rfl p1 rfl ⟨_, upd_same, r3.put kk (h1.mono sm)⟩) (t1.trans sm)
      · cases q
    · cases q
end
end FL
set_option Elab.async false
set_option linter.all false
set_option maxRecDepth 100000
set_option maxHeartbeats 4000000
namespace FL
open PySem PySem.Spec PyProof.Rows L2
section
variable {prog : Program} {w : World} {A : Around} {E : Value → Shared → Prop} {s : Shared}
theorem items_view {d : Addr} {Q : Value → Shared → Prop} (hd : (d == sysModules) = false) (hT : s.TypeIs (.ref d) "dict")
    (hQ : Q (.ref s.heap.objs.size) { s with heap := s.heap.push { cls := .type "dict_items", data := .fields #[.ref d] } }) : wpAny (model prog w) A (call (.builtin "dict.items") [.ref d]) Q E s := by
  refine wpAny_call_entry PySem.F.slot_dict_items hT PySem.F.entry_dict_items ?_ (PySem.F.args_dict_items_1 _)
  unfold Builtin.«dict.items»
  refine wpAny_bind ?_
  unfold Builtin.Dict.noArgs
  refine wpAny_bind (wpAny_notOrdered_dict hT ?_)
  show wpAny _ _ (pure d) _ _ s
  refine wpAny_pure ?_
  show wpAny _ _ (Builtin.Dict.showsAll d >>= _) _ _ s
  unfold Builtin.Dict.showsAll
  rw [if_neg (by rw [hd]; exact Bool.false_ne_true)]
  refine wpAny_bind (wpAny_pure ?_)
  exact wpAny_bind (wpAny_newObj_type (wpAny_pure ⟨_, rfl, hQ⟩))
theorem items_iter {v d : Addr} {o : Obj} {es : Array DictEntry} {ep : Nat} {Q : Value → Shared → Prop} (hv : s.heap.IsItemsView v d) (ho : s.heap.get? d = some o) (hdat : o.data = .dict es ep)
    (hQ : Q (.ref s.heap.objs.size) { s with heap := s.heap.push { cls := .type "dict_itemiterator", data := .fields #[.none, .bool false, .ref d, .int 0 0, .int es.size 0, .int ep 0, .none, .none] } }) :
    wpAny (model prog w) A (pyIter (.ref v)) Q E s := by
  obtain ⟨ov, hov, hcv, hdv⟩ := id hv
  refine wpAny_pyIter_slot hv.typeIs F.slot_dict_items_iter (wpAny_call_entry F.slot_dict_items_iter hv.typeIs F.entry_dict_items_iter ?_ (F.args_dict_items_iter_1 _))
  unfold Builtin.«dict_items.__iter__»
  refine wpAny_bind (wpAny_pure (wpAny_bind ?_))
  unfold Builtin.Dict_items.dictOf
  refine wpAny_bind (wpAny_field hov hdv (x := .ref d) rfl (wpAny_pure (wpAny_bind ?_)))
  unfold Builtin.Dict_items.newIterator
  refine wpAny_bind (wpAny_dictEntries ho hdat (wpAny_bind (wpAny_dictEpoch ho hdat ?_)))
  have hown : Builtin.Dict_items.ownsTuple "dict_itemiterator" = true := by decide
  simp only [hown, if_true]
  refine wpAny_newObj_type (wpAny_pure ⟨_, rfl, "dict_itemiterator", _, ⟨_, Heap.get?_push_size _ rfl, rfl⟩, F.slot_dict_itemiterator_next.lookup, ?_⟩)
    (by simp only [sizeOk, Builtin.Dict_items.ownedTupleFields, List.size_toArray, List.length_append, List.length_cons, List.length_nil, sizeLine_eq]; omega)
  simpa [rawInt, Builtin.Dict_items.ownedTupleFields] using hQ
theorem items_next {it d : Addr} {i ep : Nat} {od : Obj} {es : Array DictEntry} {ok ov : Value} {Q : Option Value → Shared → Prop} (hit : IsItemIter s.heap it d i es.size ep ok ov) (hod : s.heap.get? d = some od) (hdd : od.data = .dict es ep) (hlt : i < es.size)
    (hQ : ∀ h', IsItemIterOut h' it d (i + 1) es.size ep es[i].key es[i].val s.heap.objs.size → h'.get? s.heap.objs.size = some { cls := .type "tuple", data := .seq #[es[i].key, es[i].val] } →
      (∀ b o, b ≠ it → s.heap.get? b = some o → h'.get? b = some o) → Q (some (.ref s.heap.objs.size)) { s with heap := h' }) : wpAny (model prog w) A (pyNext (.ref it)) Q E s := by
  obtain ⟨hp, g, dr, tk, os⟩ := s
  have hT : Shared.TypeIs ⟨hp, g, dr, tk, os⟩ (.ref it) "dict_itemiterator" := ⟨_, hit, rfl⟩
  have hown : Builtin.Dict_items.ownsTuple "dict_itemiterator" = true := by decide
  have hil : it < hp.objs.size := Heap.lt_size hit
  unfold pyNext
  refine wpAny_bind (wpAny_attempt (wpAny_callSpecial?_slot (name := Str.ofString "__next__") hT F.slot_dict_itemiterator_next
    (wpAny_call_entry F.slot_dict_itemiterator_next hT F.entry_dict_itemiterator_next ?_ (F.args_dict_itemiterator_next_1 _))))
  refine wpAny_bind (wpAny_pure (wpAny_bind (wpAny_bind ?_)))
  first | refine wpAny_bind (wpAny_typeNameOfWhole_itemiter hT (wpAny_pure ?_)) | refine wpAny_bind (wpAny_typeNameOf_itemiter hT (wpAny_pure ?_))
  refine wpAny_bind (wpAny_fieldsOf hit rfl ?_)
  simp only [hown, if_true]
  show wpAny _ _ (if (Value.ref d == Value.none) = true then _ else _) _ _ _
  rw [if_neg (show ¬ ((Value.ref d == Value.none) = true) from Bool.false_ne_true)]
  refine wpAny_bind (wpAny_pure (wpAny_bind (wpAny_dictEntries hod hdd ?_)))
  rw [if_neg (by simp)]
  refine wpAny_bind (wpAny_pure (wpAny_bind (wpAny_dictEpoch hod hdd ?_)))
  rw [if_neg (by simp)]
  refine wpAny_pure ?_
  simp only [show ¬ ((i : Int) < 0) from by omega, if_false, Int.toNat_natCast, Array.getElem?_eq_getElem hlt]
  refine wpAny_bind ?_
  first | refine wpAny_bind (wpAny_typeNameOfWhole_itemiter hT (wpAny_pure ?_)) | refine wpAny_bind (wpAny_typeNameOf_itemiter hT (wpAny_pure ?_))
  refine wpAny_bind (wpAny_isOneOf_itemiter hT ?_)
  show wpAny _ _ (setField (.ref it) 3 (rawInt ((i : Int) + 1)) >>= _) _ _ ⟨hp, g, dr, tk, os⟩
  refine wpAny_bind (wpAny_setField_rec hit (by simp) fun h₁ he₁ hs₁ => ?_)
  replace hs₁ : Heap.SameBut it hp h₁ := hs₁
  replace he₁ : IsItemIter h₁ it d (i + 1) es.size ep ok ov := by
    have e : ((i + 1 : Nat) : Int) = (i : Int) + 1 := by omega
    unfold IsItemIter
    rw [e]
    simpa [rawInt] using he₁
  have hT₁ : Shared.TypeIs ⟨h₁, g, dr, tk, os⟩ (.ref it) "dict_itemiterator" := ⟨_, he₁, rfl⟩
  refine wpAny_bind (wpAny_holding (wpAny_bind (wpAny_isOneOf_itemiter hT₁ (wpAny_bind (wpAny_isOneOf_itemiter hT₁ ?_)))))
  show wpAny _ _ (Builtin.Dict_items.pairFromOwner (.ref it) 6 es[i].key es[i].val) _ _ ⟨h₁, g, dr, tk, os⟩
  unfold Builtin.Dict_items.pairFromOwner
  refine wpAny_bind (wpAny_newTuple ?_)
  have he₂ : IsItemIter (h₁.push { cls := .type "tuple", data := .seq #[es[i].key, es[i].val] }) it d (i + 1) es.size ep ok ov := Heap.get?_push_of_some _ he₁
  have hz₁ : h₁.objs.size = hp.objs.size := hs₁.1
  have ht₂ : (h₁.push { cls := .type "tuple", data := .seq #[es[i].key, es[i].val] }).get? hp.objs.size = some { cls := .type "tuple", data := .seq #[es[i].key, es[i].val] } := by rw [← hz₁]; exact Heap.get?_push_size _ rfl
  have hk₂ : ∀ b o, b ≠ it → hp.get? b = some o → (h₁.push { cls := .type "tuple", data := .seq #[es[i].key, es[i].val] }).get? b = some o := fun b o hb e => Heap.get?_push_of_some _ (hs₁.extBut b o hb e)
  generalize h₁.push { cls := .type "tuple", data := .seq #[es[i].key, es[i].val] } = h₂ at he₂ ht₂ hk₂
  show wpAny _ _ (Builtin.Dict_items.ownedTupleIsFree (.ref it) >>= _) _ _ ⟨h₂, g, dr, tk, os⟩
  rw [hz₁]
  refine wpAny_bind ?_
  unfold Builtin.Dict_items.ownedTupleIsFree
  refine wpAny_bind (wpAny_field he₂ rfl (x := .none) rfl (wpAny_pure ?_))
  simp only [if_true]
  refine wpAny_bind (wpAny_field he₂ rfl (x := ok) rfl (wpAny_bind (wpAny_field he₂ rfl (x := ov) rfl ?_)))
  refine wpAny_bind (wpAny_setField_rec he₂ (by simp) fun h₃ he₃ hs₃ => ?_)
  replace he₃ : IsItemIter h₃ it d (i + 1) es.size ep es[i].key ov := he₃
  refine wpAny_bind (wpAny_setField_rec he₃ (by simp) fun h₄ he₄ hs₄ => ?_)
  replace he₄ : IsItemIter h₄ it d (i + 1) es.size ep es[i].key es[i].val := he₄
  refine wpAny_bind (wpAny_setField_rec he₄ (by simp) fun h₅ he₅ hs₅ => ?_)
  replace he₅ : IsItemIterOut h₅ it d (i + 1) es.size ep es[i].key es[i].val hp.objs.size := he₅
  refine wpAny_bind (wpAny_setField_rec he₅ (by simp) fun h₆ he₆ hs₆ => ?_)
  replace he₆ : IsItemIterOut h₆ it d (i + 1) es.size ep es[i].key es[i].val hp.objs.size := he₆
  have all : ∀ b o, b ≠ it → h₂.get? b = some o → h₆.get? b = some o := fun b o hb e => Heap.SameBut.extBut hs₆ b o hb (Heap.SameBut.extBut hs₅ b o hb (Heap.SameBut.extBut hs₄ b o hb (Heap.SameBut.extBut hs₃ b o hb e)))
  exact wpAny_bind (wpAny_letGo (wpAny_pure (wpAny_pure ⟨_, rfl, wpAny_pure (hQ h₆ he₆ (all _ _ (Nat.ne_of_gt hil) ht₂) fun b o hb e => all b o hb (hk₂ b o hb e))⟩)))
theorem items_stop {it d : Addr} {i ep : Nat} {od : Obj} {es : Array DictEntry} {ok ov : Value} {Q : Option Value → Shared → Prop} (hh : A.handled = none) (hit : IsItemIter s.heap it d i es.size ep ok ov) (hod : s.heap.get? d = some od) (hdd : od.data = .dict es ep) (hge : es.size ≤ i)
    (hQ : ∀ h', Heap.ExtBut it s.heap h' → Q none { s with heap := h' }) : wpAny (model prog w) A (pyNext (.ref it)) Q E s := by
  have hT : s.TypeIs (.ref it) "dict_itemiterator" := ⟨_, hit, rfl⟩
  have hown : Builtin.Dict_items.ownsTuple "dict_itemiterator" = true := by decide
  unfold pyNext
  refine wpAny_bind (wpAny_attempt (wpAny_callSpecial?_slot (name := Str.ofString "__next__") hT F.slot_dict_itemiterator_next
    (wpAny_call_entry F.slot_dict_itemiterator_next hT F.entry_dict_itemiterator_next ?_ (F.args_dict_itemiterator_next_1 _))))
  refine wpAny_bind (wpAny_pure (wpAny_bind (wpAny_bind ?_)))
  first | refine wpAny_bind (wpAny_typeNameOfWhole_itemiter hT (wpAny_pure ?_)) | refine wpAny_bind (wpAny_typeNameOf_itemiter hT (wpAny_pure ?_))
  refine wpAny_bind (wpAny_fieldsOf hit rfl ?_)
  simp only [hown, if_true]
  show wpAny _ _ (if (Value.ref d == Value.none) = true then _ else _) _ _ s
  rw [if_neg (show ¬ ((Value.ref d == Value.none) = true) from Bool.false_ne_true)]
  refine wpAny_bind (wpAny_pure (wpAny_bind (wpAny_dictEntries hod hdd ?_)))
  rw [if_neg (by simp)]
  refine wpAny_bind (wpAny_pure (wpAny_bind (wpAny_dictEpoch hod hdd ?_)))
  rw [if_neg (by simp)]
  refine wpAny_pure ?_
  simp only [show ¬ ((i : Int) < 0) from by omega, if_false, Int.toNat_natCast, Array.getElem?_eq_none hge]
  refine wpAny_bind ?_
  first | refine wpAny_bind (wpAny_typeNameOfWhole_itemiter hT (wpAny_pure ?_)) | refine wpAny_bind (wpAny_typeNameOf_itemiter hT (wpAny_pure ?_))
  show wpAny _ _ (setField (.ref it) 2 .none >>= _) _ _ s
  refine wpAny_bind (wpAny_setField hit rfl (by simp) ?_)
  show wpAny _ _ (newExc (.type "StopIteration") [] >>= _) _ _ _
  refine wpAny_bind ?_
  simp only [newExc, newTuple]
  refine wpAny_bind (wpAny_newObj_type ?_ (by size_fits))
  refine wpAny_bind (m := firstArgMember _ _) (wpAny_of_eq (a := Value.none) (by first | rfl | (simp only [firstArgMember]; rfl)) ?_)
  refine wpAny_newObj_type ?_ (by size_fits)
  simp only [raiseNew]
  refine wpAny_bind (wpAny_handled ?_)
  rw [show A.in1.handled = none from hh]
  refine wpAny_bind (wpAny_pure (wpAny_throw ?_))
  refine wpAny_bind (wpAny_isInstance (T := "StopIteration") (b := true) ⟨_, Heap.get?_push_size _ rfl, rfl⟩ isSubtype_stop ?_)
  exact wpAny_pure (hQ _ (((Heap.SameBut.update ..).extBut.push _).push _))
end
end FL
set_option Elab.async false
set_option linter.all false
set_option maxRecDepth 100000
set_option maxHeartbeats 4000000
namespace FL
open PySem PySem.Spec PyProof.Rows L2
def ItD (a : Addr) (o : Obj) (ws : List (List Key × V)) : It :=
  ⟨fun i H => i < ws.length ∧ H a = some (.frz o (.dT ws)),
   fun i H x H' => ∃ p b k v, ws[i]? = some (k, v) ∧ H b = some (.tup (k.map kV)) ∧ H p = none ∧ x = .ref p ∧ H' = upd H p (.tup [.ref b, v]),
   fun i H => ws.length ≤ i ∧ H a = some (.frz o (.dT ws))⟩
theorem Paired.getP {α β : Type} {F : α → β → Prop} : ∀ {l : List α} {m : List β} {i : Nat} {x : α}, Paired F l m → l[i]? = some x → ∃ y, m[i]? = some y ∧ F x y
  | _, _, 0, x, .cons h t, e => by
    rw [List.getElem?_cons_zero] at e
    cases e
    exact ⟨_, List.getElem?_cons_zero, h⟩
  | _, _, i + 1, x, .cons h t, e => by
    rw [List.getElem?_cons_succ] at e
    obtain ⟨y, h1, h2⟩ := Paired.getP t e
    exact ⟨y, by rw [List.getElem?_cons_succ]; exact h1, h2⟩
theorem turn_items {P : Program} {w : World} {K : PySem.W.Frag} {elts : List Expr} {kx : Nat} {tp : Pos} {a it : Addr} {o : Obj} {es : Array DictEntry} {ep : Nat} {ws : List (List Key × V)} (hod : o.data = .dict es ep) (hsz : es.size = ws.length) :
    Turn P w K (.Tuple elts kx tp) (ItD a o ws) [it] it (fun i h => ∃ ok ov, IsItemIter h it a i es.size ep ok ov) where
  mem := List.mem_cons_self
  obj := fun i h st b hb => by
    have e : b = it := by simpa using hb
    subst e
    obtain ⟨ok, ov, he⟩ := st
    exact ⟨_, he, fun v z => by cases z⟩
  keep := fun i h h' st k => by
    obtain ⟨ok, ov, he⟩ := st
    exact ⟨ok, ov, k it List.mem_cons_self _ he⟩
  item := by
    intro X hP hw hK hc i pins s σ H E I hf st hg
    subst hP hw hK
    obtain ⟨ok, ov, he⟩ := st
    obtain ⟨f0, f1, f2, f3, f4, f5⟩ := hf it List.mem_cons_self
    obtain ⟨hlt, ha⟩ := hg
    obtain ⟨hoa, hz, hd, xs, rel, o', es', ep', h1, h2, h3, h4, h5⟩ := (show s.heap.get? a = some o ∧ ObjOk X.prog X.w H s.heap a (.dT ws) from I.hok a _ ha)
    rw [hoa] at h1
    cases h1
    rw [hod] at h3
    cases h3
    have hi : i < es.size := by rw [hsz]; exact hlt
    obtain ⟨q, hq, r1, r2, r3⟩ := Paired.getP rel (List.getElem?_eq_getElem hlt)
    have hes : es[i] = entryOfKey (tupleKind (mixKind X.prog X.w)) q := by
      have e1 : es.toList[i]? = some es[i] := by simp [hi]
      rw [h4, List.getElem?_map, hq] at e1
      exact (Option.some.inj e1).symm
    have ek : es[i].key = .ref q.2.1 := by rw [hes]; rfl
    have ev : es[i].val = q.2.2 := by rw [hes]; rfl
    refine items_next he hoa hod hi fun h' hout htup hkeep => ⟨_, rfl, ?_⟩
    rw [ek, ev] at htup
    refine wpAny_letOwnedTupleGo_items hout fun h'' he'' hs'' => ?_
    have hil : it < s.heap.objs.size := Heap.lt_size he
    have hfp : H s.heap.objs.size = none := I.hok.fresh (Nat.le_refl _)
    have I1 : Inv X pins σ (upd H s.heap.objs.size (.tup [.ref q.2.1, ws[i].2])) { s with heap := s.heap.push { cls := .type "tuple", data := .seq #[.ref q.2.1, q.2.2] }, toks := s.toks } :=
      I.laid (t' := s.toks) (fun b u e => Heap.get?_push_of_some _ e) (Nat.le_refl _) ⟨by show 2 ≤ sizeLine; decide, [.ref q.2.1, q.2.2], .cons rfl (.cons r3 .nil), ⟨_, Heap.get?_push_size _ rfl, rfl, _, rfl⟩⟩
    have fe : (upd H s.heap.objs.size (.tup [.ref q.2.1, ws[i].2])) it = none := by rw [upd_ne (Nat.ne_of_lt hil)]; exact f0
    have I2 : Inv X pins σ (upd H s.heap.objs.size (.tup [.ref q.2.1, ws[i].2])) { s with heap := h'' } := I1.turned (t' := s.toks) (fun b ob hb e => by
      refine (hs''.2 b hb).trans ?_
      by_cases c : b = s.heap.objs.size
      · subst c
        rw [Heap.get?_push_size _ rfl] at e
        cases e
        exact htup
      · rw [Heap.get?_push_ne _ _ _ c] at e
        exact hkeep b ob hb e) fe f1 f3 f4 f5
    refine ⟨.ref s.heap.objs.size, _, I2, rfl, ⟨s.heap.objs.size, q.2.1, ws[i].1, ws[i].2, List.getElem?_eq_getElem hlt, r2, hfp, rfl, rfl⟩, ⟨_, _, he''⟩, fun b hb => ?_⟩
    have e : b = it := by simpa using hb
    subst e
    exact fe
  done := by
    intro X hP hw hK hc i pins s σ H E I hf st hg
    subst hP hw hK
    obtain ⟨ok, ov, he⟩ := st
    obtain ⟨f0, f1, f2, f3, f4, f5⟩ := hf it List.mem_cons_self
    obtain ⟨hle, ha⟩ := hg
    have hoa : s.heap.get? a = some o := (show s.heap.get? a = some o ∧ ObjOk X.prog X.w H s.heap a (.dT ws) from I.hok a _ ha).1
    exact items_stop (I.ok.hd hc) he hoa hod (by rw [hsz]; exact hle) fun h' hx => ⟨rfl, I.turned (t' := s.toks) (fun b ob hb e => hx b ob hb e) f0 f1 f3 f4 f5⟩
  self := fun A i s Q E st h => by
    obtain ⟨ok, ov, he⟩ := st
    exact PySem.W.kcp_self he h
end FL
set_option Elab.async false
set_option linter.all false
set_option maxRecDepth 100000
set_option maxHeartbeats 4000000
namespace FL
open PySem PySem.Spec PyProof.Rows L2
def itemsD (kvs : List (List Key × D)) : List D := kvs.map fun kv => .tup [.tup (kv.1.map keyD), kv.2]
theorem walks_items {K : PySem.W.Frag} {Hf : Hp} {a : Addr} {o : Obj} {ws : List (List Key × V)} {kvs : List (List Key × D)} (ha : Hf a = some (.frz o (.dT ws))) (r : KVs K Hf kvs ws) : Walks K Hf (ItD a o ws) (itemsD kvs) := fun H' Hf' t sf i => by
  have ha' : H' a = some (.frz o (.dT ws)) := sf _ _ (t _ _ ha)
  have hlen := r.length
  refine ⟨fun d hd => ?_, fun hle => ⟨by unfold itemsD at hle; rw [List.length_map] at hle; omega, ha'⟩⟩
  unfold itemsD at hd
  rw [List.getElem?_map] at hd
  cases hk : kvs[i]? with
  | none => rw [hk] at hd; cases hd
  | some kv =>
    rw [hk] at hd
    cases hd
    obtain ⟨⟨k0, v0⟩, hw, h1, h2⟩ := Paired.getP r hk
    have hi : i < ws.length := (List.getElem?_eq_some_iff.mp hw).1
    refine ⟨⟨hi, ha'⟩, fun x H2 hy => ?_⟩
    obtain ⟨p, b, k, v, e1, e2, e3, rfl, rfl⟩ := hy
    rw [hw] at e1
    cases e1
    have hfp : Hf' p = none := sf.free e3
    have hbp : b ≠ p := ne_of_none e2 e3
    have hsb : ∀ u, Hf' b = some u → u = .tup (k0.map kV) := fun u e => by
      have := sf _ _ e
      rw [e2] at this
      exact (Option.some.inj this).symm
    have sm1 : Same Hf' (upd Hf' b (.tup (k0.map kV))) := fun c u e => by
      by_cases hc : c = b
      · subst hc; rw [upd_same, hsb u e]
      · rw [upd_ne hc]; exact e
    have hfp1 : (upd Hf' b (.tup (k0.map kV))) p = none := by rw [upd_ne (Ne.symm hbp)]; exact hfp
    have sm2 := same_upd (o := .tup [.ref b, v0]) hfp1
    refine ⟨upd (upd Hf' b (.tup (k0.map kV))) p (.tup [.ref b, v0]), ⟨same_upd e3, sm1.trans sm2, fun c u e => ?_, fun c u e => ?_⟩, ?_⟩
    · by_cases hc : c = p
      · subst hc; rw [upd_same] at e ⊢; exact e
      · rw [upd_ne hc] at e ⊢
        by_cases hc' : c = b
        · subst hc'; rw [upd_same] at e; cases e; exact e2
        · rw [upd_ne hc'] at e; exact sf _ _ e
    · by_cases hc : c = p
      · subst hc; exact .inr (.inl e3)
      · rw [upd_ne hc] at e
        by_cases hc' : c = b
        · subst hc'; rw [upd_same] at e; cases e; exact .inr (.inr ⟨k0, rfl⟩)
        · rw [upd_ne hc'] at e; exact .inl e
    · have e1 : kv.1 = k0 := h1
      show Has K _ (.tup [.tup (kv.1.map keyD), kv.2]) (.ref p)
      rw [e1]
      refine Has.tup_iff.mpr ⟨p, [.ref b, v0], rfl, SqT.of upd_same, .cons (Has.tup_iff.mpr ⟨b, k0.map kV, rfl, SqT.of (by rw [upd_ne hbp, upd_same]), keys_hasL k0⟩) (.cons (h2.mono ((t.trans sm1).trans sm2)) .nil)⟩
section
variable {K : PySem.W.Frag} {H₀ Hf₀ : Hp} {σ : St} {ρ : Rho} {H Hf : Hp}
theorem Rep.letGo (R : Rep K H₀ Hf₀ σ ρ H Hf) {kvs : List (List Key × D)} {i : Nat} (e : ρ[i]? = some (.oT kvs)) {a : Addr} (ea : σ[i]? = some (some (.ref a))) (u : HO) : Same Hf (upd Hf a u) ∧ Rep K H₀ Hf₀ σ (ρ.set i .no) (upd H a u) (upd Hf a u) := by
  obtain ⟨a', q1, ⟨ws, q2, q2'⟩, q3, q4⟩ := R.ow i _ e rfl
  rw [ea] at q1; cases q1
  have hil : i < ρ.length := (List.getElem?_eq_some_iff.mp e).1
  have sm : Same Hf (upd Hf a u) := same_upd q3
  refine ⟨sm, fun b v z => ?_, fun b v z => ?_, fun b v z => ?_, R.f0.trans sm, by simp [R.len], fun j d z => ?_, fun j s1 z oz => ?_, fun j k s1 s2 b z oz z' oz' y y' => ?_⟩
  · rw [upd_ne (ne_of_none z q4)]; exact R.s0 b v z
  · by_cases hb : b = a
    · subst hb; rw [upd_same] at z ⊢; exact z
    · rw [upd_ne hb] at z ⊢; exact R.sf b v z
  · by_cases hb : b = a
    · subst hb; exact .inr (.inl q4)
    · rw [upd_ne hb] at z; exact R.nf b v z
  · rw [List.getElem?_set] at z
    by_cases hj : i = j
    · rw [if_pos hj, if_pos hil] at z; cases z
    · rw [if_neg hj] at z
      obtain ⟨v, p1, p2⟩ := R.fr j d z
      exact ⟨v, p1, p2.mono sm⟩
  · rw [List.getElem?_set] at z
    by_cases hj : i = j
    · rw [if_pos hj, if_pos hil] at z
      cases z; cases oz
    · rw [if_neg hj] at z
      obtain ⟨b, p1, p2, p3, p4⟩ := R.ow j s1 z oz
      have hba : b ≠ a := by
        rintro rfl
        exact hj (R.inj i j _ s1 b e rfl z oz ea p1)
      refine ⟨b, p1, p2.mono (fun o q => by rw [upd_ne hba]; exact q) sm, ?_, p4⟩
      rw [upd_ne hba]
      exact p3
  · have own_at : ∀ (j : Nat) (s1 : Slot), (ρ.set i .no)[j]? = some s1 → s1.own = true → ρ[j]? = some s1 := fun j s1 z oz => by
      rw [List.getElem?_set] at z
      by_cases hj : i = j
      · rw [if_pos hj, if_pos hil] at z; cases z; cases oz
      · rw [if_neg hj] at z; exact z
    exact R.inj j k s1 s2 b (own_at j s1 z oz) oz (own_at k s2 z' oz') oz' y y'
end
def tID (K : PySem.W.Frag) (i : Nat) : TI := fun σ H R' => ∃ H₀ Hf₀ ρ Hf kvs, Rep K H₀ Hf₀ σ ρ H Hf ∧ ρ[i]? = some (.oT kvs) ∧ ∀ J H' Hf', Rep K H₀ Hf₀ σ (ρ.set i .no) H' Hf' → Same Hf Hf' → Walks K Hf' J (itemsD kvs) → R' J H'
section
variable {X : Cx} {pos : Pos} {body : List Stmt} {γ : FG} {B : FS}
theorem type_dict_items' : typeOf (.builtin "dict.items") = pure (.type "method_descriptor") := by show builtinType _ = _; rw [builtinType_eq_fast]; kernel_rfl
theorem pi_items {x : Str} {p1 apos cpos : Pos} {elts : List Expr} {kx : Nat} {tp : Pos} (i : Nat) (hN : X.N[i]? = some x := by rfl) (hvis : Vis X.env.scope x := by first | exact Or.inl rfl | exact Or.inr (Or.inl rfl) | exact Or.inr (Or.inr rfl))
    (hd : (x == ("__debug__" : Str)) = false := by decide) (hcd : (x == ("__classdict__" : Str)) = false := by decide)
    (hbase : attributeBase (.Name x p1) "items" X.env (eval (.Name x p1) X.env) = eval (.Name x p1) X.env := by rfl) (hline : (apos.endLine == cpos.line) = true := by rfl) :
    PI X (.Tuple elts kx tp) (.Call (.Attribute (.Name x p1) "items" apos) [] [] cpos) (tID X.K i) := by
  intro pins s σ H R' I h
  obtain ⟨H₀, Hf₀, ρ, Hf, kvs, R, e, k⟩ := h
  obtain ⟨a, q1, ⟨ws, q2, q2'⟩, q3, q4⟩ := R.ow i _ e rfl
  refine wpAny_Call_method0_late hbase hline (thn (pe_var hN hvis hd hcd pins s σ H (fun v H1 => v = .ref a ∧ H1 = H) I ⟨_, q1, rfl, rfl⟩) fun v s1 ⟨y, H1, I1, r1, ey, eH⟩ => ?_)
  subst ey eH
  cases r1
  obtain ⟨hz, hd', xs, rel, o, es, ep, g1, g2, g3, g4, g5⟩ := (show ObjOk X.prog X.w H1 s1.heap a (.dT ws) from I1.hok a _ q2)
  have hT : s1.TypeIs (.ref a) "dict" := ⟨o, g1, g2.1⟩
  refine ⟨"dict", "dict.items", PySem.F.plainAttrs_dict, PySem.F.slot_dict_items, type_dict_items', hT, ?_, ?_⟩
  · intro a' ea
    cases ea
    exact ⟨o, g1, g2.2.1⟩
  · refine Calls.callWith_builtin rfl (PySem.evalArgs_none (items_view hd' hT ?_))
    have hal : a < s1.heap.objs.size := Heap.lt_size g1
    have hsx : xs.length = es.size := by
      have := congrArg List.length g4
      rw [List.length_map, Array.length_toList] at this
      exact this.symm
    refine items_iter (d := a) ⟨_, Heap.get?_push_size _ rfl, rfl, rfl⟩ (Heap.get?_push_of_some _ g1) g3 ?_
    obtain ⟨sm, R2⟩ := R.letGo e q1 (.frz o (.dT ws))
    have hsz1 : (s1.heap.push { cls := .type "dict_items", data := .fields #[.ref a] }).objs.size = s1.heap.objs.size + 1 := size_push' _ _
    have kp : ∀ b u, s1.heap.get? b = some u → ((s1.heap.push { cls := .type "dict_items", data := .fields #[.ref a] }).push { cls := .type "dict_itemiterator", data := .fields #[.none, .bool false, .ref a, .int 0 0, .int es.size 0, .int ep 0, .none, .none] }).get? b = some u := fun b u z => Heap.get?_push_of_some _ (Heap.get?_push_of_some _ z)
    have I2 := I1.kept (t' := s1.toks) kp
    have ne : ∀ c ks, H1 c = some (.tup ks) → c ≠ a := fun c ks z => ne_of z q2 (fun z => nomatch z)
    have I3 := d_write (ob := .frz o (.dT ws)) (t' := s1.toks) I2 (by rw [q2]; exact True.intro) (Heap.SameBut.refl _ _) ⟨o, kp _ _ g1⟩
      ⟨kp _ _ g1, hz, hd', xs, Paired.mapP rel fun p q z => ⟨z.1, by rw [upd_ne (ne _ _ z.2.1)]; exact z.2.1, z.2.2⟩, o, es, ep, kp _ _ g1, g2, g3, g4, g5⟩
    have hit : (s1.heap.push { cls := .type "dict_items", data := .fields #[.ref a] }).objs.size ≠ a := by rw [hsz1]; exact Nat.ne_of_gt (Nat.lt_succ_of_lt hal)
    refine ⟨_, [(s1.heap.push { cls := .type "dict_items", data := .fields #[.ref a] }).objs.size], _, _, _, rfl, I3, turn_items (a := a) (ws := ws) (elts := elts) (kx := kx) (tp := tp) g3 (by rw [← hsx]; exact (Paired.length rel).symm), ⟨_, _, Heap.get?_push_size _ rfl⟩, fun b hb => ?_, k _ _ _ R2 sm (walks_items upd_same (KVs.mono sm q2'))⟩
    have eb : b = (s1.heap.push { cls := .type "dict_items", data := .fields #[.ref a] }).objs.size := by simpa using hb
    have hle : s1.heap.objs.size ≤ b := by rw [eb, hsz1]; exact Nat.le_succ _
    exact FpOk.none' (fp_new I1 hle) (by rw [upd_ne (by rw [eb]; exact hit)]; exact I1.hok.fresh hle)
def forDF (i : Nat) (γ : FG) (B : FS) : FS := fun ρ => match ρ[i]? with
  | some (.oT kvs) => loopF γ B (itemsD kvs) (ρ.set i .no)
  | _ => none
@[simp] theorem s_forDF {i : Nat} {γ : FG} {B : FS} {ρ : Rho} : forDF i γ B ρ = match ρ[i]? with
  | some (.oT kvs) => loopF γ B (itemsD kvs) (ρ.set i .no)
  | _ => none := rfl
@[simp] theorem s_dnewF {i : Nat} {ρ : Rho} : dnewF i ρ = some (.nx (ρ.set i (.oT []))) := rfl
@[simp] theorem s_dputF {i : Nat} {fa : FA} {g : FE} {ρ : Rho} : dputF i fa g ρ = (g ρ).bind fun v => (fa ρ).bind fun ks => match ρ[i]? with
  | some (.oT kvs) => (keysOf ks).bind fun k => if kvs.length < sizeLine ∧ ks.length ≤ sizeLine then some (.nx (ρ.set i (.oT (putD kvs k v)))) else none
  | _ => none := rfl
theorem ds_forD {tg iter : Expr} {i0 : Nat} (hp : PassesOwn (model X.prog X.w) X.A X.env X.xe) (hc : X.calm = true) (hi : PI X tg iter (tID X.K i0)) (hg : DG X tg γ) (hb : DSs X body B)
    (hs : ∀ x, foldedSetIterable iter X.env x = pure x := by intro _; rfl) : DS X (.For tg iter body [] pos) (forDF i0 γ B) :=
  ps_imp (ps_for hp hc hi hg hb hs) fun D' σ H ⟨H₀, Hf₀, ρ, Hf, o, R, q, k⟩ => by
    unfold forDF at q
    split at q
    · rename_i kvs el0
      refine ⟨H₀, Hf₀, ρ, Hf, kvs, R, el0, fun J H1 Hf1 R1 t1 wk => ?_⟩
      have k1 := k.mono t1
      refine ⟨fun i m σ H => m = (itemsD kvs).length - i ∧ i ≤ (itemsD kvs).length ∧ ∃ ρ Hf', Rep X.K H₀ Hf₀ σ ρ H Hf' ∧ Same Hf1 Hf' ∧ loopF γ B ((itemsD kvs).drop i) ρ = some o, ⟨(itemsD kvs).length, by simp, Nat.zero_le _, _, Hf1, R1, sameR, by simpa using q⟩, ?_⟩
      rintro i m σ2 H2 ⟨rfl, hi, ρ2, Hf2, R2, t2, el⟩
      obtain ⟨w1, w2⟩ := wk H2 Hf2 t2 R2.sf i
      by_cases hil : i < (itemsD kvs).length
      · right
        obtain ⟨go, yld⟩ := w1 _ (List.getElem?_eq_getElem hil)
        refine ⟨go, ?_⟩
        rw [List.drop_eq_getElem_cons hil] at el
        unfold loopF at el
        cases eg : γ (itemsD kvs)[i] ρ2 with
        | none => rw [eg] at el; cases el
        | some ρ3 =>
          rw [eg] at el
          simp only [Option.bind_some] at el
          obtain ⟨o1, eb, eo⟩ := bindO_some el
          refine ⟨fun σ' H' => ∃ ρ' Hf', Rep X.K H₀ Hf₀ σ' ρ' H' Hf' ∧ Same Hf1 Hf' ∧ loopF γ B ((itemsD kvs).drop (i + 1)) ρ' = some o, ?_, ?_⟩
          · rintro σ' H' ⟨ρ', Hf', R', t', e'⟩
            exact ⟨(itemsD kvs).length - (i + 1), by omega, rfl, hil, ρ', Hf', R', t', e'⟩
          · intro x H3 hy
            obtain ⟨Hf3, gr, hx⟩ := yld x H3 hy
            refine ⟨H₀, Hf₀, ρ2, Hf3, (itemsD kvs)[i], ρ3, R2.grows gr, hx, eg, fun σ4 H4 Hf4 R4 t4 => ?_⟩
            refine ⟨H₀, Hf₀, ρ3, Hf4, o1, R4, eb, ?_⟩
            have tt : Same Hf1 Hf4 := (t2.trans gr.f).trans t4
            cases o1 with
            | nx ρ5 => exact fun σ5 H5 Hf5 R5 t5 => ⟨ρ5, Hf5, R5, tt.trans t5, eo⟩
            | ct ρ5 => exact fun σ5 H5 Hf5 R5 t5 => ⟨ρ5, Hf5, R5, tt.trans t5, eo⟩
            | bk ρ5 => cases eo; exact fun σ5 H5 Hf5 R5 t5 => k1 _ _ _ R5 (tt.trans t5)
            | rt d => cases eo; exact fun v σ5 ρ5 H5 Hf5 R5 t5 h5 => k1 _ _ _ _ _ R5 (tt.trans t5) h5
      · left
        have : (itemsD kvs).drop i = [] := List.drop_eq_nil_of_le (by omega)
        rw [this] at el
        cases el
        exact ⟨w2 (by omega), k1 _ _ _ R2 t2⟩
    · cases q
end
end FL
set_option Elab.async false
set_option linter.all false
set_option maxRecDepth 100000
set_option maxHeartbeats 4000000
namespace FL
open PySem PySem.Spec PyProof.Rows L2
def dinT (i : Nat) (fa : FA) : FT := fun ρ => (fa ρ).bind fun ks => match ρ[i]? with
  | some (.oT kvs) => (keysOf ks).bind fun k => if ks.length ≤ sizeLine then some (kvs.any fun kv => decide (kv.1 = k)) else none
  | _ => none
@[simp] theorem s_dinT {i : Nat} {fa : FA} {ρ : Rho} : dinT i fa ρ = (fa ρ).bind fun ks => match ρ[i]? with
  | some (.oT kvs) => (keysOf ks).bind fun k => if ks.length ≤ sizeLine then some (kvs.any fun kv => decide (kv.1 = k)) else none
  | _ => none := rfl
section
variable {X : Cx} {pos : Pos} {kk : Nat}
theorem dt_din {x : Str} {es : List Expr} {x1} {p1 tp : Pos} {fa : FA} (i : Nat) (hr : Room kk X.A) (ha : DA X es fa) (hN : X.N[i]? = some x := by rfl) (hvis : Vis X.env.scope x := by first | exact Or.inl rfl | exact Or.inr (Or.inl rfl) | exact Or.inr (Or.inr rfl))
    (hd : (x == ("__debug__" : Str)) = false := by decide) (hcd : (x == ("__classdict__" : Str)) = false := by decide) (hm : behindInMarks .In (.Name x p1) = false := by rfl) :
    DT X (.Compare (.Tuple es x1 tp) [.In] [.Name x p1] pos) (dinT i fa) :=
  pt_imp (pt_cmp (pc_din (by have := hr.un; omega) (pe_tup ha) (pe_var hN hvis hd hcd)) hm) fun σ H Q ⟨H₀, Hf₀, ρ, Hf, b, R, q, k⟩ => by
    unfold dinT at q
    obtain ⟨ks, e2, q⟩ := Option.bind_eq_some_iff.mp q
    split at q
    · rename_i kvs el
      obtain ⟨kk, e3, q⟩ := Option.bind_eq_some_iff.mp q
      split at q
      · rename_i hz
        cases q
        obtain ⟨a, p1, _⟩ := R.ow i _ el rfl
        refine ⟨H₀, Hf₀, ρ, Hf, ks, R, e2, fun vs H2 Hf2 R2 s2 t2 h2 => ⟨by rw [h2.length]; exact hz, fun p hp => ⟨_, p1, ?_⟩⟩⟩
        have R3 := R2.lay (o := .tup vs) hp
        obtain ⟨a', r1, ⟨ws, r2, r3⟩, r4, r5⟩ := R3.ow i _ el rfl
        rw [p1] at r1; cases r1
        rw [keysOf_some e3] at h2
        have ev := hasL_keys h2
        refine ⟨a, _, rfl, DGet.t r2 (by rw [upd_same, ev]), _, rfl, ?_⟩
        rw [← valV_any, ← r3.any kk]
        exact k _ _ R3 (s2.trans (same_upd hp)) (t2.trans (same_upd (R2.sf.free hp)))
      · cases q
    · cases q
end
end FL
set_option Elab.async false
set_option linter.all false
set_option maxRecDepth 100000
set_option maxHeartbeats 4000000
namespace FL
open PySem PySem.Spec PyProof.Rows L2
def cutS (z : Str) (lo hi : Option Int) : Str := ⟨(cutL z.cps.toList lo hi).toArray⟩
theorem clipS (n : Nat) (d : Nat) (v : Int) : max (0 : Int) (min (if v < 0 then v + (n : Int) else v) (n : Int)) = ((HT.sIx n d (some v) : Nat) : Int) := by
  show _ = (((if v < 0 then (v + (n : Int)).toNat else min v.toNat n) : Nat) : Int)
  by_cases hv : v < 0
  · simp only [if_pos hv]; omega
  · simp only [if_neg hv]; omega
theorem indS (lo hi : Option Int) (n : Nat) : Builtin.Str.strSliceIndices lo hi 1 n = sliceRange ((HT.sIx n 0 lo : Nat) : Int) ((HT.sIx n n hi : Nat) : Int) 1 := by
  unfold Builtin.Str.strSliceIndices
  have h1 : ((1 : Int) > 0) = True := by simp
  simp only [h1, if_true]
  congr 1
  · cases lo with
    | none => rfl
    | some v => exact clipS n 0 v
  · cases hi with
    | none => rfl
    | some v => exact clipS n n v
theorem rangeS (a b : Nat) : sliceRange (a : Int) (b : Int) 1 = (List.range (b - a)).map fun k => a + k := by
  unfold sliceRange
  have h1 : ((1 : Int) > 0) = True := by simp
  simp only [h1, if_true]
  by_cases h : (a : Int) < b
  · rw [if_pos h]
    have e3 : (((b : Int) - a + 1 - 1) / 1).toNat = b - a := by first | omega | (simp; omega)
    rw [e3]
    refine List.map_congr_left fun k _ => ?_
    omega
  · rw [if_neg h, show b - a = 0 by omega]
    rfl
theorem pickS (z : Str) (lo hi : Option Int) : (Builtin.Str.strSliceIndices lo hi 1 z.length).filterMap (z.cps[·]?) = cutL z.cps.toList lo hi := by
  have hl : z.length = z.cps.toList.length := by simp [Str.length]
  have hb := HT.sIx_le z.cps.toList.length z.cps.toList.length (Nat.le_refl _) hi
  have ha := HT.sIx_le z.cps.toList.length 0 (Nat.zero_le _) lo
  rw [indS, hl]
  unfold cutL
  generalize HT.sIx z.cps.toList.length 0 lo = a at ha ⊢
  generalize HT.sIx z.cps.toList.length z.cps.toList.length hi = b at hb ⊢
  rw [rangeS]
  by_cases hab : a ≤ b
  · have h := StrLaws.picks z.cps.toList (b - a) a (by omega)
    simpa using h
  · rw [show b - a = 0 by omega]
    rfl
theorem cutL_length {α : Type} (xs : List α) (lo hi : Option Int) : (cutL xs lo hi).length ≤ xs.length := by
  unfold cutL
  rw [List.length_take, List.length_drop]
  omega
theorem cutL_same {α : Type} (xs : List α) (lo hi : Option Int) (h : (cutL xs lo hi).length = xs.length) : cutL xs lo hi = xs := by
  unfold cutL at h ⊢
  rw [List.length_take, List.length_drop] at h
  have hb := HT.sIx_le xs.length xs.length (Nat.le_refl _) hi
  generalize HT.sIx xs.length 0 lo = a at h ⊢
  generalize HT.sIx xs.length xs.length hi = b at h hb ⊢
  by_cases hz : xs = []
  · subst hz; simp
  · have : 0 < xs.length := List.length_pos_iff.mpr hz
    have ha : a = 0 := by omega
    subst ha
    have : b = xs.length := by omega
    subst this
    simp
theorem str_ext {x y : Str} (h : x.cps.toList = y.cps.toList) : x = y := by
  cases x; cases y
  simp only [Str.mk.injEq]
  exact Array.toList_inj.mp h
section
variable {X : Cx}
def rSlS : V → Option Int → Option Int → Hp → VK → Prop := fun x lo hi H Q => ∃ z, x = .str z ∧ z.length ≤ sizeLine ∧ Q (.str (cutS z lo hi)) H
theorem sl_str : SlR X rSlS := by
  intro pins s σ H x v vl vu lo hi sl Q I rx hs pl pu h
  obtain ⟨z, rfl, hz, q⟩ := h
  obtain ⟨t, rfl⟩ := rx
  refine ⟨"str", _, F.slot_str_getitem.lookup, typeIs_str s z t, ?_⟩
  obtain ⟨l, el, hl⟩ : ∃ l : Option (Int × Tok), vl = partValue l ∧ l.map (·.1) = lo := by
    cases pl with
    | none => exact ⟨none, rfl, rfl⟩
    | int i t => exact ⟨some (i, t), rfl, rfl⟩
  obtain ⟨u, eu, hu⟩ : ∃ l : Option (Int × Tok), vu = partValue l ∧ l.map (·.1) = hi := by
    cases pu with
    | none => exact ⟨none, rfl, rfl⟩
    | int i t => exact ⟨some (i, t), rfl, rfl⟩
  subst el eu
  refine wpAny_getItem_str_slice (l := l) (u := u) (st := none) hs rfl ?_
  have hp : slicePicked z l u none = Builtin.Str.strSliceIndices lo hi 1 z.length := by
    unfold slicePicked; rw [hl, hu]; rfl
  have hln : (Builtin.Str.strSliceIndices lo hi 1 z.length).length = (cutL z.cps.toList lo hi).length := by
    rw [indS, rangeS, List.length_map, List.length_range]
    have hl : z.length = z.cps.toList.length := by simp [Str.length]
    unfold cutL
    rw [List.length_take, List.length_drop, hl]
    have hb := HT.sIx_le z.cps.toList.length z.cps.toList.length (Nat.le_refl _) hi
    omega
  unfold sliceMade
  rw [hp]
  split
  · rename_i hw
    have e : cutS z lo hi = z := by
      apply str_ext
      show (cutL z.cps.toList lo hi).toArray.toList = _
      rw [List.toList_toArray]
      apply cutL_same
      rw [← hln]
      simp at hw
      rw [hw]
      simp [Str.length]
    exact ⟨.str z, H, I, ⟨t, rfl⟩, by rw [← e]; exact q⟩
  · rw [pickS]
    refine ⟨?_, .str _, H, I.tok _, ⟨_, rfl⟩, q⟩
    have := cutL_length z.cps.toList lo hi
    rw [Array.length_toList] at this
    show (cutL z.cps.toList lo hi).toArray.size ≤ sizeLine
    rw [List.size_toArray]
    exact Nat.le_trans this hz
def sliceX (f : FE) (l u : FP) : FE := fun ρ => (f ρ).bind fun x => (l ρ).bind fun lo => (u ρ).bind fun hi => match x with
  | .tup ds => some (.tup (cutL ds lo hi))
  | .lst ds => some (.lst (cutL ds lo hi))
  | .str z => if z.length ≤ sizeLine then some (.str (cutS z lo hi)) else none
  | _ => none
variable {a b c e : Expr} {f g h : FE} {pos p2 : Pos}
theorem d_sliceX {lo hi : Option Expr} {l u : FP} (he : DR X e f) (hl : DP X lo l) (hu : DP X hi u) : DE X (.Subscript e (.Slice lo hi none p2) pos) (sliceX f l u) :=
  pe_imp (pe_slice (sl_tupG.or (sl_list.or sl_str)) he hl hu) fun σ H Q ⟨H₀, Hf₀, ρ, Hf, d, R, q, k⟩ => by
    obtain ⟨x, e1, e2⟩ := bindV_some q
    cases e3 : l ρ with
    | none => rw [e3] at e2; cases e2
    | some lo =>
      rw [e3] at e2
      cases e4 : u ρ with
      | none => rw [e4] at e2; cases e2
      | some hi =>
        rw [e4] at e2
        simp only [Option.bind_some] at e2
        refine ⟨H₀, Hf₀, ρ, Hf, x, R, e1, fun v H1 Hf1 R1 s1 t1 h1 => ⟨H₀, Hf₀, ρ, Hf1, lo, R1, e3, fun H2 Hf2 R2 s2 t2 => ⟨H₀, Hf₀, ρ, Hf2, hi, R2, e4, fun H3 Hf3 R3 s3 t3 => ?_⟩⟩⟩
        have h3 := (h1.mono t2).mono t3
        have ss := (s1.trans s2).trans s3
        have tt := (t1.trans t2).trans t3
        split at e2
        · cases e2
          obtain ⟨a, xs, rfl, qa, la⟩ := h3.tup R3
          refine .inl ⟨a, xs, rfl, qa, fun hw => ?_, fun hw p hp => ?_⟩
          · rw [la.length] at hw
            exact k _ _ _ R3 ss tt (by rw [cut_whole hw]; exact h3.tupF)
          · have sm := same_upd (o := .tup (cutV xs lo hi)) (R3.sf.free hp)
            exact k _ _ _ (R3.lay hp) (ss.trans (same_upd hp)) (tt.trans sm) (Has.tup_iff.mpr ⟨p, _, rfl, SqT.of upd_same, (la.cut lo hi).mono sm⟩)
        · cases e2
          obtain ⟨a, xs, rfl, qa, la⟩ := h3.lst R3
          refine .inr (.inl ⟨a, xs, rfl, qa, fun p hp => ?_⟩)
          have sm := same_upd (o := .lst (cutV xs lo hi)) (R3.sf.free hp)
          exact k _ _ _ (R3.lay hp) (ss.trans (same_upd hp)) (tt.trans sm) (Has.lst_iff.mpr ⟨p, _, rfl, SqL.of upd_same, (la.cut lo hi).mono sm⟩)
        · split at e2
          · cases e2
            exact .inr (.inr ⟨_, h3.str, by assumption, k _ _ _ R3 ss tt (Has.str_iff.mpr rfl)⟩)
          · cases e2
        · cases e2
end
end FL
set_option Elab.async false
set_option linter.all false
set_option maxRecDepth 100000
set_option maxHeartbeats 4000000
namespace FL
open PySem PySem.Spec PyProof.Rows L2
def ItS (z : Str) : It := ⟨fun i _ => i < z.cps.toList.length, fun i H x H' => H' = H ∧ ∃ c, z.cps.toList[i]? = some c ∧ x = .str ⟨#[c]⟩, fun i _ => z.cps.toList.length ≤ i⟩
theorem turn_text {P : Program} {w : World} {K : PySem.W.Frag} {tg : Expr} (z : Str) (t : Tok) (it : Addr) (ty : String) (hty : ty = "str_ascii_iterator" ∨ ty = "str_iterator") : Turn P w K tg (ItS z) [it] it (fun i h => h.IsStrIter it ty z t i) where
  mem := by simp
  obj := fun i h st b hb => by
    have e : b = it := by simpa using hb
    subst e
    obtain ⟨o, ho, _, hd⟩ := st
    exact ⟨o, ho, fun v zz => by rw [hd] at zz; cases zz⟩
  keep := fun i h h' st k => let ⟨o, ho, r⟩ := st; ⟨o, k it (by simp) o ho, r⟩
  item := by
    intro X hP hw hK hc i pins s σ H E I hf st hg
    subst hP hw hK
    have hg : i < z.cps.toList.length := hg
    have hi : i < z.cps.size := by simpa using hg
    have fr := hf it (by simp)
    have hx : z.cps[i]? = some z.cps[i] := by simp [hi]
    have fin : ∀ h', h'.IsStrIter it ty z t (i + 1) → Heap.SameBut it s.heap h' → ∃ u, (some (Value.str ⟨#[z.cps[i]]⟩ s.toks)) = some u ∧ wpAny (model X.prog X.w) X.A (letOwnedTupleGo tg (.ref it) u) (fun _ s2 => ∃ x H', Inv X pins σ H' s2 ∧ RelV x u ∧ (ItS z).yld i H x H' ∧ s2.heap.IsStrIter it ty z t (i + 1) ∧ ∀ b ∈ [it], H' b = none) E { s with heap := h', toks := s.toks + 1 } := by
      intro h' st' sb
      have I1 : Inv X pins σ H { s with heap := h', toks := s.toks + 1 } := turned1 (t' := s.toks + 1) I sb fr
      obtain ⟨o, ho, hcl, hd⟩ := id st'
      refine ⟨_, rfl, go_of (s := { s with heap := h', toks := s.toks + 1 }) ho hcl hd (by rcases hty with e | e <;> subst e <;> decide) ⟨.str ⟨#[z.cps[i]]⟩, H, I1, ⟨_, rfl⟩, ⟨rfl, z.cps[i], by simp [hi], rfl⟩, st', fun b hb => (hf b hb).1⟩⟩
    rcases hty with e | e
    · subst e
      exact wpAny_pyNext_ascii_item st hx fin
    · subst e
      exact wpAny_pyNext_wide_item st hx fin
  done := by
    intro X hP hw hK hc i pins s σ H E I hf st hg
    subst hP hw hK
    have hg : z.cps.toList.length ≤ i := hg
    have hx : z.cps[i]? = none := by simpa using hg
    obtain ⟨f0, f1, f2, f3, f4, f5⟩ := hf it (by simp)
    have fin : ∀ h', Heap.ExtBut it s.heap h' → (none : Option Value) = none ∧ Inv X pins σ H { s with heap := h' } := fun h' eb =>
      ⟨rfl, I.turned (t' := s.toks) (fun b o hb e => eb b o hb e) f0 f1 f3 f4 f5⟩
    rcases hty with e | e
    · subst e
      exact wpAny_pyNext_ascii_end (I.ok.hd hc) st hx fin
    · subst e
      exact wpAny_pyNext_wide_end (I.ok.hd hc) st hx fin
  self := fun A i s Q E st h => by
    rcases hty with e | e
    · subst e; exact wpAny_pyIter_striter_ascii st h
    · subst e; exact wpAny_pyIter_striter_wide st h
def sgnD (z : Str) : List D := z.cps.toList.map fun c => D.str ⟨#[c]⟩
theorem walks_text {K : PySem.W.Frag} {Hf : Hp} {z : Str} : FL.Walks K Hf (ItS z) (sgnD z) := fun H2 Hf2 t2 sf2 i => by
  refine ⟨fun d hd => ?_, fun hle => ?_⟩
  · unfold sgnD at hd
    rw [List.getElem?_map] at hd
    cases e : z.cps.toList[i]? with
    | none => rw [e] at hd; cases hd
    | some c =>
      rw [e] at hd
      cases hd
      refine ⟨(List.getElem?_eq_some_iff.mp e).1, fun x H3 hy => ?_⟩
      obtain ⟨rfl, c', hc, rfl⟩ := hy
      rw [e] at hc
      cases hc
      exact ⟨Hf2, Grows.refl sf2, Has.str_iff.mpr rfl⟩
  · show z.cps.toList.length ≤ i
    simpa [sgnD] using hle
section
variable {X : Cx} {e : Expr} {f : FE} {pos : Pos} {tg : Expr}
def seqOfX : D → Option (List D)
  | .lst ds => some ds
  | .tup ds => some ds
  | .str z => some (sgnD z)
  | _ => none
def seqX (f : FE) : FA := fun ρ => (f ρ).bind seqOfX
theorem di_seqX (he : DE X e f) : DI X tg e (seqX f) := by
  intro pins s σ H R I h
  obtain ⟨H₀, Hf₀, ρ, Hf, ds, R0, q, k⟩ := h
  obtain ⟨d, q3, q4⟩ := bindV_some q
  refine thn (he pins s σ H (fun v H1 => ∃ Hf1, Rep X.K H₀ Hf₀ σ ρ H1 Hf1 ∧ Same H H1 ∧ Same Hf Hf1 ∧ Has X.K Hf1 d v) I ⟨H₀, Hf₀, ρ, Hf, d, R0, q3, fun v H1 Hf1 R1 s1 t1 h1 => ⟨Hf1, R1, s1, t1, h1⟩⟩) fun u s1 ⟨v, H1, I1, r, Hf1, R1, s1', t1, h1⟩ => ?_
  cases d with
  | lst ds' =>
    cases q4
    obtain ⟨a, xs, rfl, qa, la⟩ := Has.lst_iff.mp h1
    cases r
    obtain ⟨its, rv, p, hz⟩ := I1.list (R1.sf.seq qa)
    refine wpAny_pyIter_list p.isList ?_
    refine ⟨s1.heap.objs.size, [s1.heap.objs.size], _, _, H1, rfl, I1.kept (t' := s1.toks) fun b o e => Heap.get?_push_of_some _ e, turn_list a _, ⟨_, Heap.get?_push_size _ rfl, rfl, rfl⟩, fun b hb => ?_, k _ _ _ R1 s1' t1 (walks_list qa la)⟩
    have e : b = s1.heap.objs.size := by simpa using hb
    subst e
    exact I1.fpOk (Nat.le_refl _) (I1.hok.fresh (Nat.le_refl _))
  | tup ds' =>
    cases q4
    obtain ⟨a, xs, rfl, qa, la⟩ := Has.tup_iff.mp h1
    cases r
    obtain ⟨its, rv, p, hz⟩ := I1.tuple (sameT R1.sf qa)
    refine wpAny_pyIter_tuple (show s1.heap.IsTuple a its.toArray from p) ?_
    refine ⟨s1.heap.objs.size, [s1.heap.objs.size], _, _, H1, rfl, I1.kept (t' := s1.toks) fun b o e => Heap.get?_push_of_some _ e, turn_tuple a _, ⟨_, Heap.get?_push_size _ rfl, rfl, rfl⟩, fun b hb => ?_, k _ _ _ R1 s1' t1 (walks_tup qa la)⟩
    have e : b = s1.heap.objs.size := by simpa using hb
    subst e
    exact I1.fpOk (Nat.le_refl _) (I1.hok.fresh (Nat.le_refl _))
  | str z =>
    cases q4
    cases Has.str_iff.mp h1
    obtain ⟨t, rfl⟩ := r
    have fin : ∀ ty : String, ty = "str_ascii_iterator" ∨ ty = "str_iterator" → PIE X pins σ tg R (.ref s1.heap.objs.size) { s1 with heap := s1.heap.push { cls := .type ty, data := .fields #[.str z t, .int 0 0] } } := fun ty hty => by
      refine ⟨s1.heap.objs.size, [s1.heap.objs.size], _, _, H1, rfl, I1.kept (t' := s1.toks) fun b o e => Heap.get?_push_of_some _ e, turn_text z t _ ty hty, ⟨_, Heap.get?_push_size _ rfl, rfl, rfl⟩, fun b hb => ?_, k _ _ _ R1 s1' t1 walks_text⟩
      have e : b = s1.heap.objs.size := by simpa using hb
      subst e
      exact I1.fpOk (Nat.le_refl _) (I1.hok.fresh (Nat.le_refl _))
    cases ha : z.cps.all (· < 128)
    · exact wpAny_pyIter_wide ha (fin _ (.inr rfl))
    · exact wpAny_pyIter_ascii ha (fin _ (.inl rfl))
  | _ => cases q4
end
section
variable {X : Cx} {o e : Expr} {f g : FE} {kk : Nat}
end
section
variable {X : Cx}
def rIntX : List V → Hp → VK → Prop := fun xs H Q => ((∃ i, xs = [.int i] ∧ Q (.int i) H) ∨ ∃ k, xs = [.bl k] ∧ Q (.int (if k then 1 else 0)) H) ∨ ∃ z n, xs = [.str z] ∧ z.length ≤ 640 ∧ PySem.intText? z = some n ∧ Q (.int n) H
theorem call_intX : CallR X (.type "int") rIntX := by
  intro pins s σ H xs us Q I r h
  rcases h with h | ⟨z, n, rfl, hl, hn, q⟩
  · exact call_int1 pins s σ H xs us Q I r h
  · obtain ⟨u, rfl, t, rfl⟩ := vals1 r
    exact PySem.W.KIN.call_text hn hl ⟨.int n, H, I.tok _, ⟨_, rfl⟩, q⟩
def intX : List D → Option D
  | [.int i] => some (.int i)
  | [.bl b] => some (.int (if b then 1 else 0))
  | [.str z] => if z.length ≤ 640 then (PySem.intText? z).map D.int else none
  | _ => none
theorem fnR_intX : FnR X rIntX intX := by
  intro σ ρ H₀ Hf₀ H Hf xs ds d Q R hx hφ k
  unfold intX at hφ
  split at hφ
  · cases hφ
    obtain ⟨v, rfl, hv⟩ := hx.one
    exact .inl (.inl ⟨_, by rw [hv.int], k _ _ _ R sameR sameR (Has.int_iff.mpr rfl)⟩)
  · cases hφ
    obtain ⟨v, rfl, hv⟩ := hx.one
    exact .inl (.inr ⟨_, by rw [hv.bl], k _ _ _ R sameR sameR (Has.int_iff.mpr rfl)⟩)
  · split at hφ
    · rename_i z hl
      cases hn : PySem.intText? z with
      | none => rw [hn] at hφ; cases hφ
      | some n =>
        rw [hn] at hφ
        cases hφ
        obtain ⟨v, rfl, hv⟩ := hx.one
        exact .inr ⟨z, n, by rw [hv.str], hl, hn, k _ _ _ R sameR sameR (Has.int_iff.mpr rfl)⟩
    · cases hφ
  · cases hφ
end
end FL
set_option Elab.async false
set_option linter.all false
set_option maxRecDepth 100000
set_option maxHeartbeats 4000000
namespace FL
open PySem PySem.Spec PyProof.Rows L2
abbrev FJ := Rho → Option (List Str)
section
variable {X : Cx} {e : Expr} {es : List Expr} {f : FE} {fj : FJ} {pos p2 : Pos}
end
@[simp] theorem s_sliceX {f : FE} {l u : FP} {ρ : Rho} : sliceX f l u ρ = (f ρ).bind fun x => (l ρ).bind fun lo => (u ρ).bind fun hi => match x with
  | .tup ds => some (.tup (cutL ds lo hi))
  | .lst ds => some (.lst (cutL ds lo hi))
  | .str z => if z.length ≤ sizeLine then some (.str (cutS z lo hi)) else none
  | _ => none := rfl
@[simp] theorem s_seqX {f : FE} {ρ : Rho} : seqX f ρ = (f ρ).bind seqOfX := rfl
end FL
set_option Elab.async false
set_option linter.all false
set_option maxRecDepth 100000
set_option maxHeartbeats 4000000
namespace FL
open PySem PySem.Spec PyProof.Rows L2
section
variable {K : PySem.W.Frag} {C p dx l : Addr} {H Hf H' Hf' H2 Hf2 : Hp} {hd wd : D} {ms : List D}
end
section
variable (gA gT gI gS : List D → Option D)
variable (gL : List D → Option D)
end
end FL
set_option Elab.async false
set_option linter.all false
set_option maxRecDepth 100000
set_option maxHeartbeats 4000000
namespace FL
open PySem PySem.Spec PyProof.Rows L2
end FL
set_option Elab.async false
set_option linter.all false
set_option maxRecDepth 100000
set_option maxHeartbeats 4000000
namespace FL
open PySem PySem.Spec PyProof.Rows L2
section
variable {X : Cx} {pins : List (Addr × Obj)} {σ : St} {H : Hp} {s : Shared} {e : Value}
end
section
variable {X : Cx} {pins : List (Addr × Obj)} {σ : St} {H : Hp} {s : Shared}
end
end FL
set_option Elab.async false
set_option linter.all false
set_option maxRecDepth 100000
set_option maxHeartbeats 4000000
namespace FL
open PySem PySem.Spec PySem.Calls PyProof.Rows L2
section
variable {prog : Program} {w : World} {A : Around} {E : Value → Shared → Prop} {s : Shared} {K : PySem.W.Frag} {a C : Addr}
end
end FL
set_option Elab.async false
set_option linter.all false
set_option maxRecDepth 100000
set_option maxHeartbeats 4000000
namespace FL
open PySem PySem.Spec PyProof.Rows L2
inductive OutX where
  | o (x : Out)
  | ex (n : Str)
abbrev FSX := Rho → Option OutX
section
variable {X : Cx} {E : XK} {c tg iter : Expr} {fi : FA} {ft : FT} {pos : Pos} {st : Stmt} {sts rest body : List Stmt} {F : FS} {G G1 G2 B : FSX} {γ : FG}
def liftX (F : FS) : FSX := fun ρ => (F ρ).map OutX.o
def nxX : FSX := fun ρ => some (.o (.nx ρ))
def sqX (F G : FSX) : FSX := fun ρ => (F ρ).bind fun o => match o with
  | .o (.nx ρ') => G ρ'
  | o => some o
def ifX (c : FT) (F G : FSX) : FSX := fun ρ => (c ρ).bind fun b => if b = true then F ρ else G ρ
def loopX (γ : FG) (B : FSX) : List D → Rho → Option OutX
  | [], ρ => some (.o (.nx ρ))
  | d :: ds, ρ => (γ d ρ).bind fun ρ1 => (B ρ1).bind fun o => match o with
    | .o (.nx ρ2) => loopX γ B ds ρ2
    | .o (.ct ρ2) => loopX γ B ds ρ2
    | .o (.bk ρ2) => some (.o (.nx ρ2))
    | .o (.rt d) => some (.o (.rt d))
    | .ex n => some (.ex n)
end
def exX (n : Str) : FSX := fun _ => some (.ex n)
inductive RX where
  | v (d : D)
  | ex (n : Str)
section
variable {mg : Str → Option Value} {K : PySem.W.Frag} {n : Nat} {g : List D → Option RX} {vs : List V} {H Hf : Hp} {Q : VK} {E : XK} {ds : List D}
end
end FL
set_option Elab.async false
set_option linter.all false
set_option maxRecDepth 100000
set_option maxHeartbeats 4000000
namespace FL
open PySem PySem.Spec PyProof.Rows L2
section
variable {X : Cx} {o e : Expr} {f g : FE} {kk : Nat}
def idxS (z y : Str) : Option Nat := (Builtin.Str.occurrences z y 0 z.length 1).head?
def rIdx : V → List V → Hp → VK → Prop := fun x vs H Q => ∃ z y i, x = .str z ∧ vs = [.str y] ∧ idxS z y = some i ∧ Q (.int (i : Int)) H
theorem mt_index : MtR X "str.index" rIdx := by
  intro pins s σ H x vs v us Q I rx rv h
  obtain ⟨z, y, i, rfl, rfl, hi, q⟩ := h
  obtain ⟨t, rfl⟩ := rx
  obtain ⟨u, rfl, t', rfl⟩ := vals1 rv
  obtain ⟨rest, e⟩ := List.head?_eq_some_iff.mp hi
  exact SC.index e ⟨.int _, H, I.tok _, ⟨_, rfl⟩, q⟩
def idxD : D → D → Option D
  | .str z, .str y => (idxS z y).map fun (i : Nat) => .int (i : Int)
  | _, _ => none
theorem d_index {apos cpos : Pos} (ho : DE X o f) (he : DE X e g)
    (hbase : attributeBase o "index" X.env (eval o X.env) = eval o X.env := by rfl)
    (hfew : ((backTo cpos (starEach [e] X.env)).all (fun x => !x.1) && (backToKw cpos (keywordEach [] X.env)).all (fun x => x.1.isSome)
      && decide (([e] : List Expr).length + ([] : List Keyword).length + (if ([] : List Keyword).isEmpty then 0 else 1) < 30)) = true := by rfl)
    (hline : (apos.endLine == cpos.line) = true := by rfl) (hst : starEach [e] X.env = (false, eval e X.env) :: starEach [] X.env := by rfl) (hplain : (backTo cpos (starEach [] X.env)).any (·.1) = false := by rfl) :
    DE X (.Call (.Attribute o "index" apos) [e] [] cpos) (bind2 idxD f g) :=
  pe_imp (pe_bm PySem.F.plainAttrs_str PySem.F.slot_str_index PySem.F.type_str_index mt_index ho (pa_cons he pa_nil hst) hbase hfew hline hst hplain) fun σ H Q ⟨H₀, Hf₀, ρ, Hf, d, R, q, k⟩ => by
    obtain ⟨x, y, e1, e2, e3⟩ := bind2_some q
    refine ⟨H₀, Hf₀, ρ, Hf, x, R, e1, fun v H1 Hf1 R1 s1 t1 h1 => ?_⟩
    unfold idxD at e3
    split at e3
    · obtain ⟨i, hi, rfl⟩ := Option.map_eq_some_iff.mp e3
      cases Has.str_iff.mp h1
      refine ⟨rfl, H₀, Hf₀, ρ, Hf1, _, R1, e2, fun v' H2 Hf2 R2 s2 t2 h2 => ?_⟩
      cases Has.str_iff.mp h2
      exact ⟨_, _, i, rfl, rfl, hi, k _ _ _ R2 (s1.trans s2) (t1.trans t2) (Has.int_iff.mpr rfl)⟩
    · cases e3
theorem vals_strs : ∀ {ts : List Str} {us : List Value}, Vals (ts.map V.str) us → ∃ l : List (Str × Tok), strValues l = us ∧ l.map (·.1) = ts
  | [], _, .nil => ⟨[], rfl, rfl⟩
  | c :: r, _, .cons h t => by
    obtain ⟨l, e1, e2⟩ := vals_strs t
    obtain ⟨k, rfl⟩ := h
    exact ⟨(c, k) :: l, by rw [← e1]; rfl, by rw [← e2]; rfl⟩
def rJoin (K : PySem.W.Frag) : V → List V → Hp → VK → Prop := fun x vs H Q => ∃ z ts a, x = .str z ∧ vs = [.ref a] ∧ SqL K H a (ts.map V.str) ∧ JoinOk z ts = true ∧ Q (.str (Txt.join z ts)) H
theorem mt_join : MtR X "str.join" (rJoin X.K) := by
  intro pins s σ H x vs v us Q I rx rv h
  obtain ⟨z, ts, a, rfl, rfl, ha, hj, q⟩ := h
  obtain ⟨t, rfl⟩ := rx
  obtain ⟨u, rfl, ru⟩ := vals1 rv
  cases ru
  obtain ⟨its, ri, p, hz⟩ := I.list ha
  obtain ⟨l, e1, e2⟩ := vals_strs ri
  subst e1
  exact SC.join p.isList e2 hj fun t' k => ⟨.str _, H, I.tok _, ⟨_, rfl⟩, q⟩
def strsOf : List D → Option (List Str)
  | [] => some []
  | .str z :: ds => (strsOf ds).map (z :: ·)
  | _ => none
theorem strsOf_has {K : PySem.W.Frag} {H : Hp} : ∀ {ds : List D} {ts : List Str} {xs : List V}, strsOf ds = some ts → HasL K H ds xs → xs = ts.map V.str
  | [], ts, xs, e, h => by cases e; exact h
  | d :: ds, ts, xs, e, h => by
    cases d with
    | str z =>
      obtain ⟨r, e1, rfl⟩ := Option.map_eq_some_iff.mp (show (strsOf ds).map (z :: ·) = some ts from e)
      obtain ⟨x, xs', rfl, hx, hr⟩ := h
      cases Has.str_iff.mp hx
      rw [strsOf_has e1 hr]
      rfl
    | _ => cases e
def joinD : D → D → Option D
  | .str z, .lst ds => (strsOf ds).bind fun ts => if JoinOk z ts = true then some (.str (Txt.join z ts)) else none
  | _, _ => none
theorem d_joinL {apos cpos : Pos} (ho : DE X o f) (he : DE X e g)
    (hbase : attributeBase o "join" X.env (eval o X.env) = eval o X.env := by rfl)
    (hfew : ((backTo cpos (starEach [e] X.env)).all (fun x => !x.1) && (backToKw cpos (keywordEach [] X.env)).all (fun x => x.1.isSome)
      && decide (([e] : List Expr).length + ([] : List Keyword).length + (if ([] : List Keyword).isEmpty then 0 else 1) < 30)) = true := by rfl)
    (hline : (apos.endLine == cpos.line) = true := by rfl) (hst : starEach [e] X.env = (false, eval e X.env) :: starEach [] X.env := by rfl) (hplain : (backTo cpos (starEach [] X.env)).any (·.1) = false := by rfl) :
    DE X (.Call (.Attribute o "join" apos) [e] [] cpos) (bind2 joinD f g) :=
  pe_imp (pe_bm PySem.F.plainAttrs_str PySem.F.slot_str_join PySem.F.type_str_join mt_join ho (pa_cons he pa_nil hst) hbase hfew hline hst hplain) fun σ H Q ⟨H₀, Hf₀, ρ, Hf, d, R, q, k⟩ => by
    obtain ⟨x, y, e1, e2, e3⟩ := bind2_some q
    refine ⟨H₀, Hf₀, ρ, Hf, x, R, e1, fun v H1 Hf1 R1 s1 t1 h1 => ?_⟩
    unfold joinD at e3
    split at e3
    · rename_i z ds
      obtain ⟨ts, h3, h4⟩ := Option.bind_eq_some_iff.mp e3
      split at h4
      · rename_i hj
        cases h4
        cases Has.str_iff.mp h1
        refine ⟨rfl, H₀, Hf₀, ρ, Hf1, _, R1, e2, fun v' H2 Hf2 R2 s2 t2 h2 => ?_⟩
        obtain ⟨a, xs, rfl, qa, la⟩ := Has.lst_iff.mp h2
        have ex := strsOf_has h3 la
        subst ex
        exact ⟨z, ts, a, rfl, rfl, R2.sf.seq qa, hj, k _ _ _ R2 (s1.trans s2) (t1.trans t2) (Has.str_iff.mpr rfl)⟩
      · cases h4
    · cases e3
end
open Builtin Builtin.Str in
theorem split_at {prog : Program} {w : World} {A : Around} {E : Value → Shared → Prop} {s : Shared} {x y : Str} {t u : Tok} {Q : Value → Shared → Prop} (hy : (y.length == 0) = false)
    (hsz : x.length ≤ sizeLine) (hsz2 : (partsBetween x (occurrences x y 0 x.length (x.length + 1)) y.length).length ≤ sizeLine)
    (hq : ∀ (l : List (Str × Tok)) (tk : Tok), l.map (·.1) = Txt.split x y → Q (.ref s.heap.objs.size) { s with toks := tk, heap := s.heap.push { cls := .type "list", data := .seq (strValues l).toArray } }) :
    wpAny (model prog w) A (call (.builtin "str.split") [.str x t, .str y u]) Q E s := by
  cases h1 : (decide (x.length < y.length) || decide (strKind x < strKind y))
  · cases hf : (occurrences x y 0 x.length (x.length + 1)).isEmpty
    · refine call_meets F.slot_str_split (typeIs_str _ _ _) F.entry_str_split (F.args_str_split_2 _ _) (meets_str_split_sep x y t u h1 hy hf hsz hsz2) ?_
      show wants Q E _ { s with toks := _, heap := s.heap.push { cls := .type "list", data := .seq (strsFrom s.toks (partsBetween x (occurrences x y 0 x.length (x.length + 1)) y.length)).toArray } }
      rw [strsFrom_eq]
      exact hq (numbered s.toks _) _ ((numbered_texts _ _).trans ((if_neg (ne_true_of_eq_false h1)).trans (if_neg (ne_true_of_eq_false hf))).symm)
    · exact call_meets F.slot_str_split (typeIs_str _ _ _) F.entry_str_split (F.args_str_split_2 _ _) (meets_str_split_not_found x y t u h1 hy hf)
        (hq [(x, t)] s.toks ((if_neg (ne_true_of_eq_false h1)).trans (if_pos hf)).symm)
  · exact call_meets F.slot_str_split (typeIs_str _ _ _) F.entry_str_split (F.args_str_split_2 _ _) (meets_str_split_cannot_occur x y t u h1)
      (hq [(x, t)] s.toks (if_pos h1).symm)
section
variable {X : Cx} {o e : Expr} {f g : FE} {kk : Nat}
open Builtin Builtin.Str in
def SplitOk (x y : Str) : Prop := (y.length == 0) = false ∧ x.length ≤ sizeLine ∧ (partsBetween x (occurrences x y 0 x.length (x.length + 1)) y.length).length ≤ sizeLine ∧ (Txt.split x y).length ≤ sizeLine
def rSplit : V → List V → Hp → VK → Prop := fun x vs H Q => ∃ z y, x = .str z ∧ vs = [.str y] ∧ SplitOk z y ∧ ∀ p, H p = none → Q (.ref p) (upd H p (.lst ((Txt.split z y).map V.str)))
theorem strs_vals : ∀ (l : List (Str × Tok)), Vals ((l.map (·.1)).map V.str) (strValues l)
  | [] => .nil
  | p :: l => .cons ⟨_, rfl⟩ (strs_vals l)
theorem mt_split : MtR X "str.split" rSplit := by
  intro pins s σ H x vs v us Q I rx rv h
  obtain ⟨z, y, rfl, rfl, ⟨h1, h2, h3, h4⟩, q⟩ := h
  obtain ⟨t, rfl⟩ := rx
  obtain ⟨u, rfl, t', rfl⟩ := vals1 rv
  refine split_at h1 h2 h3 fun l tk hl => ?_
  have hf : H s.heap.objs.size = none := I.hok.fresh (Nat.le_refl _)
  have rl := strs_vals l
  rw [hl] at rl
  refine ⟨.ref s.heap.objs.size, upd H s.heap.objs.size (.lst ((Txt.split z y).map V.str)), I.laid (t' := tk) (fun b u e => Heap.get?_push_of_some _ e) (Nat.le_refl _) ?_, rfl, q _ hf⟩
  exact ⟨by rw [List.length_map]; exact h4, strValues l, _, rl, Heap.get?_push_size _ rfl⟩
noncomputable def splitA (f g : FE) : FA := fun ρ => (f ρ).bind fun x => (g ρ).bind fun y => match x, y with
  | .str z, .str y => @ite _ (SplitOk z y) (Classical.propDecidable _) (some ((Txt.split z y).map D.str)) none
  | _, _ => none
theorem hasL_strs {K : PySem.W.Frag} {H : Hp} : ∀ (ts : List Str), HasL K H (ts.map D.str) (ts.map V.str)
  | [] => rfl
  | t :: ts => ⟨_, _, rfl, Has.str_iff.mpr rfl, hasL_strs ts⟩
theorem dn_split {apos cpos : Pos} (ho : DE X o f) (he : DE X e g)
    (hbase : attributeBase o "split" X.env (eval o X.env) = eval o X.env := by rfl)
    (hfew : ((backTo cpos (starEach [e] X.env)).all (fun x => !x.1) && (backToKw cpos (keywordEach [] X.env)).all (fun x => x.1.isSome)
      && decide (([e] : List Expr).length + ([] : List Keyword).length + (if ([] : List Keyword).isEmpty then 0 else 1) < 30)) = true := by rfl)
    (hline : (apos.endLine == cpos.line) = true := by rfl) (hst : starEach [e] X.env = (false, eval e X.env) :: starEach [] X.env := by rfl) (hplain : (backTo cpos (starEach [] X.env)).any (·.1) = false := by rfl) :
    DN X (.Call (.Attribute o "split" apos) [e] [] cpos) (splitA f g) :=
  pe_imp (pe_bm PySem.F.plainAttrs_str PySem.F.slot_str_split PySem.F.type_str_split mt_split ho (pa_cons he pa_nil hst) hbase hfew hline hst hplain) fun σ H Q ⟨H₀, Hf₀, ρ, Hf, ds, R, q, k⟩ => by
    obtain ⟨x, e1, q1⟩ := Option.bind_eq_some_iff.mp q
    obtain ⟨y, e2, e3⟩ := Option.bind_eq_some_iff.mp q1
    refine ⟨H₀, Hf₀, ρ, Hf, x, R, e1, fun v H1 Hf1 R1 s1 t1 h1 => ?_⟩
    split at e3
    · rename_i z y
      split at e3
      · rename_i hs
        cases e3
        cases Has.str_iff.mp h1
        refine ⟨rfl, H₀, Hf₀, ρ, Hf1, _, R1, e2, fun v' H2 Hf2 R2 s2 t2 h2 => ?_⟩
        cases Has.str_iff.mp h2
        refine ⟨z, y, rfl, rfl, hs, fun p hp => ?_⟩
        have hH : H p = none := (s1.trans s2).free hp
        exact k p _ _ Hf2 (R2.layN hp) ((s1.trans s2).trans (same_upd hp)) (t1.trans t2) (hasL_strs _) upd_same (R2.sf.free hp) hH
      · cases e3
    · cases e3
end
end FL
set_option Elab.async false
set_option linter.all false
set_option maxRecDepth 100000
set_option maxHeartbeats 4000000
namespace FL
open PySem PySem.Spec PyProof.Rows L2
section
variable {prog : Program} {w : World} {A : Around} {E : Value → Shared → Prop} {s : Shared} {l : Addr} {xs : Array (Int × Tok)}
end
section
variable {X : Cx}
end
end FL
set_option Elab.async false
set_option linter.all false
set_option maxRecDepth 100000
set_option maxHeartbeats 4000000
namespace FL
open PySem PySem.Spec PyProof.Rows L2
section
variable {X : Cx} {kk : Nat}
end
end FL
set_option Elab.async false
set_option linter.all false
set_option maxRecDepth 100000
set_option maxHeartbeats 4000000
namespace FL
open PySem PySem.Spec PyProof.Rows L2
theorem Rep.dropAt {K : PySem.W.Frag} {H₀ Hf₀ H Hf : Hp} {σ : St} {ρ : Rho} (R : Rep K H₀ Hf₀ σ ρ H Hf) (i : Nat) (x : Option V) : Rep K H₀ Hf₀ (σ.set i x) (ρ.set i .no) H Hf := by
  have no : ∀ (j : Nat) (sl : Slot), (ρ.set i .no)[j]? = some sl → sl ≠ .no → i ≠ j ∧ ρ[j]? = some sl := fun j sl e hs => by
    by_cases c : i = j
    · subst c
      rw [List.getElem?_set] at e
      rw [if_pos rfl] at e
      split at e
      · cases e; exact absurd rfl hs
      · cases e
    · rw [List.getElem?_set_ne c] at e
      exact ⟨c, e⟩
  have nown : ∀ sl : Slot, sl.own = true → sl ≠ .no := fun sl o z => by subst z; cases o
  refine ⟨R.s0, R.sf, R.nf, R.f0, by simp [R.len], fun j d e => ?_, fun j sl e o => ?_, fun j j' sl sl' a e o e' o' q q' => ?_⟩
  · obtain ⟨c, e⟩ := no j _ e (by simp)
    rw [List.getElem?_set_ne c]
    exact R.fr j d e
  · obtain ⟨c, e⟩ := no j _ e (nown sl o)
    rw [List.getElem?_set_ne c]
    exact R.ow j sl e o
  · obtain ⟨c, e⟩ := no j _ e (nown sl o)
    obtain ⟨c', e'⟩ := no j' _ e' (nown sl' o')
    rw [List.getElem?_set_ne c] at q
    rw [List.getElem?_set_ne c'] at q'
    exact R.inj j j' sl sl' a e o e' o' q q'
end FL
set_option Elab.async false
set_option linter.all false
set_option maxRecDepth 100000
set_option maxHeartbeats 4000000
namespace FL
open PySem PySem.Spec PyProof.Rows L2
def eP (r : List Int) : List (Int × Int) := r.map fun x => (x, 0)
def iD (r : List Int) : D := .tup (r.map D.int)
def sortT (rs : List (List Int)) : List (List Int) := (sortR (rs.map eP)).map fun r => r.map (·.1)
theorem fst_eP (r : List Int) : (eP r).map (·.1) = r := by
  unfold eP
  rw [List.map_map]
  exact (List.map_congr_left fun _ _ => rfl).trans (List.map_id r)
theorem sortT_perm (rs : List (List Int)) : (sortT rs).Perm rs := by
  unfold sortT
  have h := (sortR_perm (rs.map eP)).map fun r => r.map (·.1)
  rw [List.map_map] at h
  have e : List.map ((fun r : List (Int × Int) => r.map (·.1)) ∘ eP) rs = rs := (List.map_congr_left fun r _ => fst_eP r).trans (List.map_id rs)
  rw [e] at h
  exact h
section
variable {X : Cx} {pins : List (Addr × Obj)} {σ : St} {H : Hp} {s : Shared} {A : Around}
theorem ltP0 (x y : Int) : ltP (x, 0) (y, 0) = decide (x < y) := by unfold ltP; simp
theorem lex_ints {Q : Bool → Shared → Prop} : ∀ {xs ys : List Int} {vs ws : List V} {us us' : List Value} {i : Nat} {fin : Bool}, HasL X.K H (xs.map D.int) vs → HasL X.K H (ys.map D.int) ws → Vals vs us → Vals ws us' →
    fin = decide (us.length < us'.length) → Q (ltR (eP xs) (eP ys)) s → PySem.W.KatLex X.prog X.w A true fin Q (us.zip us') i s
  | [], [], vs, ws, us, us', i, fin, h, h', r, r', hf, hq => by
    rw [List.map_nil, HasL.nil_iff] at h h'
    subst h h'
    cases r; cases r'
    subst hf
    exact PySem.W.kat_nil hq
  | [], y :: ys, vs, ws, us, us', i, fin, h, h', r, r', hf, hq => by
    rw [List.map_nil, HasL.nil_iff] at h
    subst h
    cases r
    obtain ⟨w0, r0, rfl, e0, l⟩ := HasL.cons_iff.mp h'
    cases r'
    subst hf
    exact PySem.W.kat_nil hq
  | x :: xs, [], vs, ws, us, us', i, fin, h, h', r, r', hf, hq => by
    rw [List.map_nil, HasL.nil_iff] at h'
    subst h'
    cases r'
    obtain ⟨w0, r0, rfl, e0, l⟩ := HasL.cons_iff.mp h
    cases r
    subst hf
    exact PySem.W.kat_nil hq
  | x :: xs, y :: ys, vs, ws, us, us', i, fin, h, h', r, r', hf, hq => by
    obtain ⟨v0, vr, rfl, e0, l⟩ := HasL.cons_iff.mp h
    obtain ⟨w0, wr, rfl, f0, l'⟩ := HasL.cons_iff.mp h'
    rw [Has.int_iff] at e0 f0
    subst e0 f0
    cases r with
    | cons r0 r =>
      cases r' with
      | cons r0' r' =>
        obtain ⟨t, rfl⟩ := r0
        obtain ⟨t', rfl⟩ := r0'
        have hq : Q (if (x, (0 : Int)) = (y, 0) then ltR (eP xs) (eP ys) else ltP (x, 0) (y, 0)) s := hq
        refine PySem.W.kat_cons (wpAny_eqBool_int ?_)
        by_cases c : x = y
        · rw [show (x == y) = true by simpa using c]
          refine PySem.W.kat_yes (lex_ints l l' r r' ?_ ?_)
          · rw [hf]; simp
          · rw [if_pos (by rw [c])] at hq; exact hq
        · rw [show (x == y) = false by simpa using c]
          rw [if_neg (fun e => c (Prod.mk.inj e).1), ltP0] at hq
          refine PySem.W.kat_no ?_
          show wpAny _ _ (oneLt' (true && i == 0) _ _) _ _ _
          cases i with
          | zero => exact PySem.W.kat_lt_int hq
          | succ i =>
            show wpAny _ _ (oneLt' false _ _) _ _ _
            exact PySem.W.kat_one _ _ (lt_int hq)
theorem ints_tups (I : Inv X pins σ H s) : ∀ {rs : List (List Int)} {ys : List V} {us : List Value}, (∀ r ∈ rs, r ≠ []) → HasL X.K H (rs.map iD) ys → Vals ys us →
    ∃ fs, PySem.W.KatTups s.heap us fs ∧ fs.length = rs.length ∧ ∀ v ∈ fs, ∃ i t, v = .int i t
  | [], ys, us, _, h, r => by
    rw [List.map_nil, HasL.nil_iff] at h
    subst h
    cases r
    exact ⟨[], .nil, rfl, fun v hv => nomatch hv⟩
  | x :: rs, ys, us, hne, h, r => by
    obtain ⟨v, vr, rfl, e0, l⟩ := HasL.cons_iff.mp h
    cases r with
    | cons r0 r =>
      obtain ⟨fs, t, hl, ht⟩ := ints_tups I (fun r hr => hne r (List.mem_cons_of_mem _ hr)) l r
      obtain ⟨a, xs, rfl, q, lx⟩ := Has.tup_iff.mp e0
      cases r0
      obtain ⟨its, rv, ⟨o, ho, hc, n, hd⟩, _⟩ := I.tuple q
      cases x with
      | nil => exact absurd rfl (hne [] List.mem_cons_self)
      | cons x0 xr =>
        obtain ⟨w, wr, rfl, f0, lw⟩ := HasL.cons_iff.mp lx
        rw [Has.int_iff] at f0
        subst f0
        cases rv with
        | cons k0 rv =>
          obtain ⟨t0, rfl⟩ := k0
          refine ⟨.int x0 t0 :: fs, .cons ho hc hd (by simp) t, by simp [hl], fun v hv => ?_⟩
          rcases List.mem_cons.mp hv with rfl | hv
          · exact ⟨_, _, rfl⟩
          · exact ht v hv
theorem ints_at {K : PySem.W.Frag} {rs : List (List Int)} {ys : List V} {us : List Value} (h : HasL K H (rs.map iD) ys) (r : Vals ys us) {i : Nat} (hi : i < us.length) :
    Has K H (iD (rs.getD i [])) (ys.getD i .non) ∧ RelV (ys.getD i .non) (us.getD i .none) := by
  have hl := r.length
  have hl' := h.length
  rw [List.length_map] at hl'
  have e : (rs.map iD)[i]? = some (iD (rs.getD i [])) := by
    rw [List.getElem?_map, List.getD_eq_getElem?_getD, List.getElem?_eq_getElem (by omega)]
    rfl
  obtain ⟨v, hv, hh⟩ := h.get e
  have ev : ys.getD i .non = v := by rw [List.getD_eq_getElem?_getD, hv]; rfl
  refine ⟨by rw [ev]; exact hh, ?_⟩
  obtain ⟨u, hu, hr⟩ := r.get hv
  rw [ev, List.getD_eq_getElem?_getD, hu]
  exact hr
theorem ints_maps {K : PySem.W.Frag} {rs : List (List Int)} {ys : List V} {us : List Value} (h : HasL K H (rs.map iD) ys) (r : Vals ys us) : ∀ (l : List Nat), (∀ i ∈ l, i < us.length) →
    HasL K H ((l.map fun i => rs.getD i []).map iD) (l.map fun i => ys.getD i .non) ∧ Vals (l.map fun i => ys.getD i .non) (l.map fun i => us.getD i .none)
  | [], _ => ⟨.nil, .nil⟩
  | i :: l, hl => by
    have a := ints_at h r (hl i List.mem_cons_self)
    have b := ints_maps h r l fun j hj => hl j (List.mem_cons_of_mem _ hj)
    exact ⟨.cons a.1 b.1, .cons a.2 b.2⟩
theorem eP_getD (rs : List (List Int)) (i : Nat) : (rs.map eP).getD i [] = eP (rs.getD i []) := by
  rw [List.getD_eq_getElem?_getD, List.getD_eq_getElem?_getD, List.getElem?_map]
  cases rs[i]? <;> rfl
theorem up_sortT {rs : List (List Int)} {p : Array Nat} (b : Bs rs.length p) (u : UpTo (O := rowOrd) (fun i => (rs.map eP).getD i []) p rs.length) : sortT rs = p.toList.map fun i => rs.getD i [] := by
  have := up_sorted (rs := rs.map eP) (p := p) (by rw [List.length_map]; exact b) (by rw [List.length_map]; exact u)
  unfold sortT
  rw [this, List.map_map]
  refine List.map_congr_left fun i _ => ?_
  show ((rs.map eP).getD i []).map (·.1) = _
  rw [eP_getD, fst_eP]
theorem call_sortedT : CallR X (.builtin "sorted") (fun xs H Q => ∃ (p : Addr) (rs : List (List Int)) (ys : List V), xs = [.ref p] ∧ SqL X.K H p ys ∧ HasL X.K H (rs.map iD) ys ∧ rs.length < 64 ∧ (∀ r ∈ rs, r ≠ []) ∧
    ∀ l (L : List Nat), H l = none → (∀ i ∈ L, i < ys.length) → sortT rs = L.map (fun i => rs.getD i []) → Q (.ref l) (upd H l (.lst (L.map fun i => ys.getD i .non)))) := by
  intro pins s σ H xs us Q I r h
  obtain ⟨p, rs, ys, rfl, hq, hh, hn, hne, q⟩ := h
  obtain ⟨u, rfl, rx⟩ := vals1 r
  cases rx
  obtain ⟨its, r', pl, hz⟩ := I.list hq
  have hlen := r'.length
  have hlen' := hh.length
  rw [List.length_map] at hlen'
  refine sorted_T (O := rowOrd) (key := fun i => (rs.map eP).getD i []) (κ := tuples' true) (vs := its) pl.isList (by omega) (fun h2 h' hk => ?_) fun p' a1 a2 => ?_
  · have I' : Inv X pins σ H { s with heap := h' } := I.kept (t' := s.toks) hk
    refine ⟨fun Q E hq => ?_, fun i j Q hi hj hq => ?_⟩
    · obtain ⟨fs, t, hl, ht⟩ := ints_tups I' hne hh r'
      refine PySem.W.kat_kind (T := .type "int") t (by omega) (fun v hv => ?_) (by rfl) hq
      obtain ⟨i, t, rfl⟩ := ht v hv
      exact PySem.W.Looks.now
    · obtain ⟨x1, x2⟩ := ints_at hh r' hi
      obtain ⟨y1, y2⟩ := ints_at hh r' hj
      obtain ⟨a, xs, e, qa, la⟩ := Has.tup_iff.mp x1
      obtain ⟨b, zs, e', qb, lb⟩ := Has.tup_iff.mp y1
      rw [e] at x2
      rw [e'] at y2
      have k1 : its.getD i .none = .ref a := x2
      have k2 : its.getD j .none = .ref b := y2
      obtain ⟨ia, ra, ⟨o, ho, hc, n, hd⟩, _⟩ := I'.tuple qa
      obtain ⟨ib, rb, ⟨o', ho', hc', n', hd'⟩, _⟩ := I'.tuple qb
      rw [k1, k2]
      have hq : Q (ltR ((rs.map eP).getD i []) ((rs.map eP).getD j [])) { s with heap := h' } := hq
      rw [eP_getD, eP_getD] at hq
      refine PySem.W.kat_lt ho hd ho' hd' ?_
      exact lex_ints la lb ra rb (by simp) hq
  · have hm : ∀ i ∈ p'.toList, i < its.length := fun i hi => by
      have : i ∈ List.range its.length := by simpa using (Array.perm_iff_toList_perm.mp a1.perm).mem_iff.mp hi
      simpa using this
    have b := ints_maps hh r' p'.toList hm
    have el : its.length = rs.length := by omega
    rw [el] at a1 a2
    have hf : H (s.heap.objs.size + 1) = none := I.hok.fresh (Nat.le_succ _)
    have q' := q _ p'.toList hf (by rw [hlen]; exact hm) (up_sortT a1 a2)
    obtain ⟨e, he⟩ := sortedAll_at s.heap its (List.toArray (p'.toList.map fun i => its.getD i .none))
    exact ⟨.ref (s.heap.objs.size + 1), _, I.laid (t' := s.toks) (fun b o x => sortedAll_old x) (Nat.le_succ _) (show ObjOk X.prog X.w _ (sortedAll s.heap its _) _ (.lst _) from ⟨by rw [List.length_map, Array.length_toList, a1.size]; omega, _, e, b.2, he⟩), rfl, q'⟩
theorem ints_has {K : PySem.W.Frag} {rs : List (List Int)} {ys : List V} (h : HasL K H (rs.map iD) ys) : ∀ (l : List Nat), (∀ i ∈ l, i < ys.length) → HasL K H ((l.map fun i => rs.getD i []).map iD) (l.map fun i => ys.getD i .non)
  | [], _ => .nil
  | i :: l, hl => by
    have hi := hl i List.mem_cons_self
    have hl' := h.length
    rw [List.length_map] at hl'
    have e : (rs.map iD)[i]? = some (iD (rs.getD i [])) := by
      rw [List.getElem?_map, List.getD_eq_getElem?_getD, List.getElem?_eq_getElem (by omega)]
      rfl
    obtain ⟨v, hv, hh⟩ := h.get e
    have ev : ys.getD i .non = v := by rw [List.getD_eq_getElem?_getD, hv]; rfl
    exact .cons (show Has K H (iD (rs.getD i [])) (ys.getD i .non) by rw [ev]; exact hh) (ints_has h l fun j hj => hl j (List.mem_cons_of_mem _ hj))
end
def intRows : List D → Option (List (List Int))
  | [] => some []
  | .tup ds :: rest => (intsOf ds).bind fun r => (intRows rest).bind fun rs => some (r :: rs)
  | _ :: _ => none
theorem intsOf_some : ∀ {ds : List D} {r : List Int}, intsOf ds = some r → ds = r.map D.int
  | [], r, h => by cases h; rfl
  | d :: ds, r, h => by
    cases d with
    | int b =>
      obtain ⟨r', e, rfl⟩ := Option.map_eq_some_iff.mp (show (intsOf ds).map (b :: ·) = some r from h)
      rw [intsOf_some e]
      rfl
    | _ => cases h
theorem intRows_some : ∀ {ds : List D} {rs : List (List Int)}, intRows ds = some rs → ds = rs.map iD
  | [], r, h => by cases h; rfl
  | d :: ds, r, h => by
    cases d with
    | tup xs =>
      obtain ⟨x, h1, h⟩ := Option.bind_eq_some_iff.mp (show (intsOf xs).bind (fun r => (intRows ds).bind fun rs => some (r :: rs)) = some r from h)
      obtain ⟨r', h2, h⟩ := Option.bind_eq_some_iff.mp h
      cases h
      rw [intsOf_some h1, intRows_some h2]
      rfl
    | _ => cases h
theorem intRows_map : ∀ rs : List (List Int), intRows (rs.map iD) = some rs
  | [] => rfl
  | r :: rs => by
    show (intsOf (r.map D.int)).bind (fun r => (intRows (rs.map iD)).bind fun rs => some (r :: rs)) = _
    rw [intsOf_map r, intRows_map rs]
    rfl
def sortTN (fa : FA) : FA := fun ρ => (fa ρ).bind fun l => match l with
  | [.lst ds] => (intRows ds).bind fun rs => if rs.length < 64 ∧ ∀ r ∈ rs, r ≠ [] then some ((sortT rs).map iD) else none
  | _ => none
section
variable {X : Cx} {e : Expr} {pos : Pos}
theorem dn_sortedT {es : List Expr} {fa : FA} {p : Pos} (hg : Gl X "sorted") (hm : X.mg "sorted" = none) (ha : DAR X (e :: es) fa)
    (he : starEach (e :: es) X.env = (false, eval e X.env) :: starEach es X.env := by rfl) (hpl : (backTo pos (starEach es X.env)).any (·.1) = false := by rfl) : DN X (.Call (.Name "sorted" p) (e :: es) [] pos) (sortTN fa) :=
  pe_imp (pe_callB (id := "sorted") call_sortedT hg hm boot_sorted ha (by decide) (by decide) he hpl) fun σ H Q ⟨H₀, Hf₀, ρ, Hf, d, R, q, k⟩ => by
    obtain ⟨l, e1, e2⟩ := bindA_some q
    refine ⟨H₀, Hf₀, ρ, Hf, l, R, e1, fun vs H1 Hf1 R1 s1 t1 h1 => ?_⟩
    split at e2
    · rename_i ds
      obtain ⟨rs, e3, e4⟩ := Option.bind_eq_some_iff.mp e2
      split at e4
      · rename_i hn
        cases e4
        obtain ⟨v, rfl, hv⟩ := HasRL.one h1
        obtain ⟨a, ys, rfl, q, l⟩ := hv.lst R1
        rw [intRows_some e3] at l
        refine ⟨a, rs, ys, rfl, q, l.mono R1.sf, hn.1, hn.2, fun p L hp hL eL => ?_⟩
        rw [eL] at k
        exact k _ _ _ _ (R1.layN hp) (s1.trans (same_upd hp)) t1 (ints_has l L hL) upd_same (R1.sf.free hp) (s1.free hp)
      · cases e4
    · cases e2
end
end FL
set_option Elab.async false
set_option linter.all false
set_option maxRecDepth 100000
set_option maxHeartbeats 4000000
namespace FL
open PySem PySem.Spec PyProof.Rows L2
theorem inv_thaw {X : Cx} {pins : List (Addr × Obj)} {σ : St} {H : Hp} {s : Shared} {l : Addr} {o : Obj} {xs : List V} (I : Inv X pins σ H s) (h : H l = some (.frz o (.lst xs))) (h0 : X.H₀ l = none) : Inv X pins σ (upd H l (.lst xs)) s := by
  have ne : ∀ b, H b = none → b ≠ l := fun b e z => by subst z; rw [h] at e; cases e
  have ne0 : ∀ b u, X.H₀ b = some u → b ≠ l := fun b u e z => by subst z; rw [h0] at e; cases e
  refine ⟨I.ok, I.os, I.bare, ⟨I.base.keep, I.base.slot, fun b ob q n hx => ?_, I.base.there, fun b ys q => ?_, fun b ob u q => ?_, fun b ps q => ?_⟩, I.loc, I.cell, ?_, fun x c e => ?_, fun p hp => ?_, fun b ob q => ?_, I.len⟩
  · have z := I.base.free b ob q n hx
    rw [upd_ne (ne b z)]; exact z
  · rw [upd_ne (ne0 b _ q)]; exact I.base.tups b ys q
  · rw [upd_ne (ne0 b _ q)]; exact I.base.frzs b ob u q
  · obtain ⟨m, e⟩ := I.base.tbls b ps q
    exact ⟨m, by rw [upd_ne (ne0 b _ q)]; exact e⟩
  · rw [upd_ne (ne _ I.free)]; exact I.free
  · rw [upd_ne (ne _ (I.freeC x c e))]; exact I.freeC x c e
  · obtain ⟨e, n, r⟩ := I.pin p hp
    exact ⟨e, by rw [upd_ne (ne _ n)]; exact n, r⟩
  · have st : ∀ u, ObjOk X.prog X.w H s.heap b u → ObjOk X.prog X.w (upd H l (.lst xs)) s.heap b u := fun u x => by
      refine x.stay (fun _ _ _ e => e) (fun c e => ?_) fun c ys e => ?_
      · rw [upd_ne (fun z => by subst z; rw [h] at e; cases e)]; exact e
      · rw [upd_ne (fun z => by subst z; rw [h] at e; cases e)]; exact e
    by_cases z : b = l
    · subst z
      rw [upd_same] at q
      cases q
      obtain ⟨_, x⟩ := I.hok b _ h
      exact st _ x
    · rw [upd_ne z] at q
      exact st _ (I.hok b ob q)
theorem ps_thaw {X : Cx} {st : Stmt} {t : TS} (h : PS X st t) : PS X st (fun D σ H => t D σ H ∨ ∃ l o xs, H l = some (.frz o (.lst xs)) ∧ X.H₀ l = none ∧ t D σ (upd H l (.lst xs))) := by
  intro pins s σ H D I hw
  rcases hw with q | ⟨l, o, xs, e, e0, q⟩
  · exact h pins s σ H D I q
  · exact h pins s σ _ D (inv_thaw I e e0) q
def lstObj (o : Obj) : Bool := match o.cls with
  | .type t => t == "list"
  | _ => false
def noLst (K : PySem.W.Frag) : Bool := K.all fun p => !lstObj p.2
theorem noLst_not {K : PySem.W.Frag} (h : noLst K = true) {a : Addr} {o : Obj} (e : K.lookup a = some o) : o.cls ≠ .type "list" := by
  have : ∀ l : List (Addr × Obj), (l.all fun p => !lstObj p.2) = true → l.lookup a = some o → o.cls ≠ .type "list" := by
    intro l
    induction l with
    | nil => intro _ e; cases e
    | cons p l ih =>
      intro hl e
      rw [List.all_cons, Bool.and_eq_true] at hl
      obtain ⟨b, q⟩ := p
      rw [List.lookup_cons] at e
      split at e
      · cases e
        intro z
        have := hl.1
        unfold lstObj at this
        rw [z] at this
        cases this
      · exact ih hl.2 e
  exact this K h e
theorem seq_split {F G : FS} {ρ ρ' : Rho} (h : seqF F G ρ = some (.nx ρ')) : ∃ ρ1, F ρ = some (.nx ρ1) ∧ G ρ1 = some (.nx ρ') := by
  rw [s_seqF] at h
  obtain ⟨o, e, h⟩ := Option.bind_eq_some_iff.mp h
  cases o with
  | nx ρ1 => exact ⟨ρ1, e, h⟩
  | rt d => cases h
  | bk _ => cases h
  | ct _ => cases h
end FL
set_option Elab.async false
set_option linter.all false
set_option maxRecDepth 100000
set_option maxHeartbeats 4000000
namespace TX
open PySem FL L2 PySem.NumText
abbrev cp (z : Str) : List Nat := z.cps.toList
theorem cp_app (a b : Str) : cp (a ++ b) = cp a ++ cp b := by
  show (a.cps ++ b.cps).toList = _
  simp
theorem cp_len (z : Str) : z.length = (cp z).length := by simp [Str.length]
theorem cp_ext {x y : Str} (h : cp x = cp y) : x = y := str_ext h
theorem cp_beq (x y : Str) : (x == y) = decide (cp x = cp y) := by
  by_cases h : cp x = cp y
  · rw [cp_ext h]; simp
  · have : x ≠ y := fun e => h (by rw [e])
    simp [h, this]
theorem cut_to {α : Type} (xs : List α) (k : Nat) (h : k ≤ xs.length) : cutL xs none (some (k : Int)) = xs.take k := by
  unfold cutL
  rw [HT.sIx_nat, HT.sIx_none, Nat.min_eq_left h]
  simp
theorem cut_from {α : Type} (xs : List α) (k : Nat) (h : k ≤ xs.length) : cutL xs (some (k : Int)) none = xs.drop k := by
  unfold cutL
  rw [HT.sIx_nat, HT.sIx_none, Nat.min_eq_left h]
  rw [List.take_of_length_le (by simp)]
theorem in_one (c : Nat) (z : Str) : inS ⟨#[c]⟩ z = decide (c ∈ cp z) := StrLaws.found_one z c
def dg (m : Nat) : List Nat := (Nat.toDigits 10 m).map Char.toNat
theorem dg_lt {m : Nat} (h : m < 10) : dg m = [48 + m] := by
  unfold dg
  rw [Nat.toDigits_of_lt_base h]
  have : ∀ d : Nat, d < 10 → (Nat.digitChar d).toNat = 48 + d := by decide
  simp [this m h]
theorem dg_ge {m : Nat} (h : ¬ m < 10) : dg m = dg (m / 10) ++ [48 + m % 10] := by
  have hm : m % 10 < 10 := Nat.mod_lt m (by decide)
  have t : Nat.toDigits 10 (m / 10) ++ Nat.toDigits 10 (m % 10) = Nat.toDigits 10 (10 * (m / 10) + m % 10) := Nat.toDigits_append_toDigits (by decide) (by omega) hm
  rw [Nat.div_add_mod] at t
  have e := dg_lt hm
  unfold dg at e ⊢
  rw [← t, List.map_append, e]
theorem dg_ne (m : Nat) : dg m ≠ [] := by
  by_cases h : m < 10
  · rw [dg_lt h]; simp
  · rw [dg_ge h]; simp
theorem dg_all (m : Nat) : AllDigits (dg m) := by
  induction m using Nat.strongRecOn with
  | _ m ih =>
    by_cases h : m < 10
    · rw [dg_lt h]
      intro c hc
      have : c = 48 + m := by simpa using hc
      omega
    · rw [dg_ge h]
      intro c hc
      rcases List.mem_append.mp hc with h1 | h1
      · exact ih (m / 10) (by omega) c h1
      · have : c = 48 + m % 10 := by simpa using h1
        omega
theorem dg_val (m : Nat) : digitsVal (dg m) = m := PySem.W.KIN.val_back m
def si (i : Int) : Str := Str.ofString (toString i)
theorem si_nn {i : Int} (h : 0 ≤ i) : cp (si i) = dg i.natAbs := by
  obtain ⟨m, rfl⟩ := Int.eq_ofNat_of_zero_le h
  exact PySem.W.KIN.signs_num m
theorem int_dg (z : Str) (m : Nat) (h : cp z = dg m) (hl : (dg m).length ≤ 640) : intX [.str z] = some (.int (m : Int)) := by
  have h2 : z.length ≤ 640 := by rw [cp_len, h]; exact hl
  show (if z.length ≤ 640 then (PySem.intText? z).map D.int else none) = _
  rw [if_pos h2, intText_digits (by show AllDigits (cp z); rw [h]; exact dg_all m) (by show cp z ≠ []; rw [h]; exact dg_ne m) (by omega)]
  show some (D.int ((digitsVal (cp z) : Nat) : Int)) = _
  rw [h, dg_val]
end TX
namespace GH
open FL L2
abbrev T3 := Int × Int × Int
def tD (t : T3) : D := .tup [.int t.1, .int t.2.1, .int t.2.2]
def houseD (n : Nat) (ts : List T3) : D := .tup [.int n, .lst (ts.map tD)]
end GH
namespace Pk13
open PySem PySem.Spec PyProof.Rows L2 FL
def top (i : Nat) : Stmt := PySem.Challenge.pw_mirrorhouse_k13_houses_shown_and_read.main.body.getD i (.Pass ⟨0, 0, 0, 0⟩)
abbrev s_check_house : Stmt := top 11
abbrev s_is_turn_text : Stmt := top 12
abbrev s_read_turn : Stmt := top 13
abbrev s_read_house : Stmt := top 14
abbrev s_shown_turn : Stmt := top 15
abbrev s_shown_house : Stmt := top 16
abbrev s_l_at : Stmt := top 18
abbrev s_l_mix : Stmt := top 19
abbrev s_l_house : Stmt := top 20
abbrev s_l_whole : Stmt := top 21
abbrev s_l_words : Stmt := top 22
abbrev s_l_same : Stmt := top 23
abbrev s_law : Stmt := top 24
structure Txt (K : PySem.W.Frag) (mg : Str → Option Value) : Prop where
  base : True
  bool_b : mg "bool" = none
  int_b : mg "int" = none
  isinstance_b : mg "isinstance" = none
  len_b : mg "len" = none
  list_b : mg "list" = none
  max_b : mg "max" = none
  min_b : mg "min" = none
  range_b : mg "range" = none
  sorted_b : mg "sorted" = none
  str_b : mg "str" = none
  tuple_b : mg "tuple" = none
  LETTERS_c : ∃ t, mg "LETTERS" = some (Value.str "abcdef" t)
  MIRROR_FIGURES_c : ∃ t, mg "MIRROR_FIGURES" = some (Value.str "123456" t)
  NEVER_c : ∃ t, mg "NEVER" = some (Value.int 0 t)
  NEVER_SIGN_c : ∃ t, mg "NEVER_SIGN" = some (Value.str "*" t)
  TOLD_TURNS_c : GTup K mg "TOLD_TURNS" [(.int 0), (.int 3), (.int 4), (.int 5), (.int 6)]
  TURN_FIGURES_c : ∃ t, mg "TURN_FIGURES" = some (Value.str "3456" t)
noncomputable def F_check_house : FS := (seqF (asgF 1 (bind2 ixD (vF 0) (cF (.int 0)))) (seqF (ifS (notT (blF (chainF leD leD (cF (.int 1)) (vF 1) (appF lenD (consA (cF (.str "abcdef")) nilA))))) neverF nxF) (seqF (dnewF 2) (forF (seqX (bind2 ixD (vF 0) (cF (.int 1)))) (tupG 3 (consG (nameG 3) (consG (nameG 4) (consG (nameG 5) nilG)))) (seqF (ifS (notT (blF (chain3F leD ltD ltD (cF (.int 0)) (vF 3) (vF 4) (vF 1)))) neverF nxF) (seqF (ifS (blF (bind2 (inD true) (vF 5) (cF (.tup [(.int 0), (.int 3), (.int 4), (.int 5), (.int 6)])))) neverF nxF) (seqF (ifS (dinT 2 (consA (vF 3) (consA (vF 4) nilA))) neverF nxF) (dputF 2 (consA (vF 3) (consA (vF 4) nilA)) (cF (.bl true))))))))))
noncomputable def g_check_house : List D → Option D := denF 6 F_check_house
theorem sc_check_house : FnScope ["house", "mirrors", "seen", "i", "j", "m"] ["house"] (defScope s_check_house) := ⟨rfl, rfl, rfl, by decide +kernel, rfl, by decide +kernel, by decide +kernel⟩
theorem ok_check_house {P : Program} {w : World} {K : PySem.W.Frag} {mg : Str → Option Value} {base : Heap} {f : Addr} {fd : FuncData} (Fn : Fun K "check_house" "check_house" s_check_house f fd) (T : Txt K mg)  :
    FnOk P w K mg base CX0 1 f fd ["house"] (spF K 1 g_check_house) :=
  fn_den (k := 0) (m := 6) (F := F_check_house) rfl rfl Fn sc_check_house fun cdv A outer s H E hr => (dss_cons (ds_asg 1 sc_check_house.nd (d_ix (DE.dr (dv 0)) (DE.dr d_int))) (dss_cons (ds_if (dt_not (dt_chain op_le op_le opD_le opD_le (DE.dr d_int) (DE.dr (dv 1)) (DE.dr (d_callB call_lenG fnR_len rfl T.len_b (by rfl) (dar_cons (DE.dr (d_gstr rfl T.LETTERS_c)) dar_nil))))) (dss_one ds_never) dss_nil) (dss_cons (ds_dnew 2 sc_check_house.nd) (dss_one (ds_for PassesOwn.never rfl (di_seqX (d_ix (DE.dr (dv 0)) (DE.dr d_int))) (dg_tup rfl (dgs_cons (dg_name 3 sc_check_house.nd) (dgs_cons (dg_name 4 sc_check_house.nd) (dgs_cons (dg_name 5 sc_check_house.nd) dgs_nil)))) (dss_cons (ds_if (dt_not (dt_chain3 op_le op_lt op_lt opD_le opD_lt opD_lt (DE.dr d_int) (DE.dr (dv 3)) (DE.dr (dv 4)) (DE.dr (dv 1)))) (dss_one ds_never) dss_nil) (dss_cons (ds_if (dt_notin hr (DE.dr (dv 5)) (DE.dr (d_gtup rfl T.TOLD_TURNS_c))) (dss_one ds_never) dss_nil) (dss_cons (ds_if (dt_din 2 hr (da_cons (dv 3) (da_cons (dv 4) da_nil))) (dss_one ds_never) dss_nil) (dss_one (ds_dput 2 hr d_bl (da_cons (dv 3) (da_cons (dv 4) da_nil))))))))))))
noncomputable def F_is_turn_text : FS := (seqF (ifS (blF (bind2 neF (appF lenD (consA (vF 0) nilA)) (cF (.int 3)))) (retF (cF (.bl false))) nxF) (retF (andV (bind2 (inD false) (bind2 ixD (vF 0) (cF (.int 0))) (cF (.str "abcdef"))) (andV (bind2 (inD false) (bind2 ixD (vF 0) (cF (.int 1))) (cF (.str "abcdef"))) (bind2 (inD false) (bind2 ixD (vF 0) (cF (.int 2))) (bind2 addX (cF (.str "3456")) (cF (.str "*"))))))))
noncomputable def g_is_turn_text : List D → Option D := denF 1 F_is_turn_text
theorem sc_is_turn_text : FnScope ["word"] ["word"] (defScope s_is_turn_text) := ⟨rfl, rfl, rfl, by decide +kernel, rfl, by decide +kernel, by decide +kernel⟩
theorem ok_is_turn_text {P : Program} {w : World} {K : PySem.W.Frag} {mg : Str → Option Value} {base : Heap} {f : Addr} {fd : FuncData} (Fn : Fun K "is_turn_text" "is_turn_text" s_is_turn_text f fd) (T : Txt K mg)  :
    FnOk P w K mg base CX0 1 f fd ["word"] (spF K 1 g_is_turn_text) :=
  fn_den (k := 0) (m := 1) (F := F_is_turn_text) rfl rfl Fn sc_is_turn_text fun cdv A outer s H E hr => (dss_cons (ds_if (dt_ne hr (DE.dr (d_callB call_lenG fnR_len rfl T.len_b (by rfl) (dar_cons (DE.dr (dv 0)) dar_nil))) (DE.dr d_int)) (dss_one (ds_ret d_bl)) dss_nil) (dss_one (ds_ret (d_and (d_in hr (DE.dr (d_ix (DE.dr (dv 0)) (DE.dr d_int))) (DE.dr (d_gstr rfl T.LETTERS_c))) (d_and (d_in hr (DE.dr (d_ix (DE.dr (dv 0)) (DE.dr d_int))) (DE.dr (d_gstr rfl T.LETTERS_c))) (d_one (d_in hr (DE.dr (d_ix (DE.dr (dv 0)) (DE.dr d_int))) (DE.dr (d_addX (DE.dr (d_gstr rfl T.TURN_FIGURES_c)) (DE.dr (d_gstr rfl T.NEVER_SIGN_c)))))))))))
noncomputable def F_read_turn : FS := (seqF (asgF 1 (ifF (blF (bind2 eqF (bind2 ixD (vF 0) (cF (.int 2))) (cF (.str "*")))) (cF (.int 0)) (appF intX (consA (bind2 ixD (vF 0) (cF (.int 2))) nilA)))) (retF (tupF (consA (bind2 idxD (cF (.str "abcdef")) (bind2 ixD (vF 0) (cF (.int 0)))) (consA (bind2 idxD (cF (.str "abcdef")) (bind2 ixD (vF 0) (cF (.int 1)))) (consA (vF 1) nilA))))))
noncomputable def g_read_turn : List D → Option D := denF 2 F_read_turn
theorem sc_read_turn : FnScope ["word", "m"] ["word"] (defScope s_read_turn) := ⟨rfl, rfl, rfl, by decide +kernel, rfl, by decide +kernel, by decide +kernel⟩
theorem ok_read_turn {P : Program} {w : World} {K : PySem.W.Frag} {mg : Str → Option Value} {base : Heap} {f : Addr} {fd : FuncData} (Fn : Fun K "read_turn" "read_turn" s_read_turn f fd) (T : Txt K mg)  :
    FnOk P w K mg base CX0 1 f fd ["word"] (spF K 1 g_read_turn) :=
  fn_den (k := 0) (m := 2) (F := F_read_turn) rfl rfl Fn sc_read_turn fun cdv A outer s H E hr => (dss_cons (ds_asg 1 sc_read_turn.nd (d_ifExp (dt_eq hr (DE.dr (d_ix (DE.dr (dv 0)) (DE.dr d_int))) (DE.dr (d_gstr rfl T.NEVER_SIGN_c))) (d_gint rfl T.NEVER_c) (d_callTy call_intX fnR_intX rfl T.int_b (by rfl) (dar_cons (DE.dr (d_ix (DE.dr (dv 0)) (DE.dr d_int))) dar_nil)))) (dss_one (ds_ret (d_tup (da_cons (d_index (d_gstr rfl T.LETTERS_c) (d_ix (DE.dr (dv 0)) (DE.dr d_int))) (da_cons (d_index (d_gstr rfl T.LETTERS_c) (d_ix (DE.dr (dv 0)) (DE.dr d_int))) (da_cons (dv 1) da_nil)))))))
noncomputable def F_read_house : FS := (seqF (asgF 1 (mapLst (splitA (vF 0) (cF (.str " "))))) (seqF (ifS (orT (blF (bind2 neF (appF lenD (consA (bind2 ixD (vF 1) (cF (.int 0))) nilA)) (cF (.int 1)))) (blF (bind2 (inD true) (bind2 ixD (vF 1) (cF (.int 0))) (cF (.str "123456"))))) neverF nxF) (seqF (forF (seqX (sliceX (vF 1) (exP (cF (.int 1))) noP)) (nameG 2) (ifS (notT (blF (appF g_is_turn_text (consA (vF 2) nilA)))) neverF nxF)) (seqF (asgF 3 (tupF (consA (appF intX (consA (bind2 ixD (vF 1) (cF (.int 0))) nilA)) (consA (mapLst (sortTN (consA (mapLst (compF 1 [] (seqX (sliceX (vF 1) (exP (cF (.int 1))) noP)) (nameG 0) ttF (appF g_read_turn (consA (vF 0) nilA)))) nilA))) nilA)))) (seqF (dropF (appF g_check_house (consA (vF 3) nilA))) (retF (vF 3)))))))
noncomputable def g_read_house : List D → Option D := denF 4 F_read_house
theorem sc_read_house : FnScope ["text", "words", "word", "house"] ["text"] (defScope s_read_house) := ⟨rfl, rfl, rfl, by decide +kernel, rfl, by decide +kernel, by decide +kernel⟩
theorem ok_read_house {P : Program} {w : World} {K : PySem.W.Frag} {mg : Str → Option Value} {base : Heap} {f : Addr} {fd : FuncData} (Fn : Fun K "read_house" "read_house" s_read_house f fd) (T : Txt K mg) (h_check_house : HasFn P w K mg base 1 "check_house" 1 g_check_house) (h_is_turn_text : HasFn P w K mg base 1 "is_turn_text" 1 g_is_turn_text) (h_read_turn : HasFn P w K mg base 1 "read_turn" 1 g_read_turn) :
    FnOk P w K mg base CX0 2 f fd ["text"] (spF K 1 g_read_house) :=
  fn_den (k := 1) (m := 4) (F := F_read_house) rfl rfl Fn sc_read_house fun cdv A outer s H E hr => (dss_cons (ds_asg 1 sc_read_house.nd (DN.de (dn_split (dv 0) d_str))) (dss_cons (ds_if (DW.dt (dw_or (dt_ne hr (DE.dr (d_callB call_lenG fnR_len rfl T.len_b (by rfl) (dar_cons (DE.dr (d_ix (DE.dr (dv 1)) (DE.dr d_int))) dar_nil))) (DE.dr d_int)) (dw_or1 (dt_notin hr (DE.dr (d_ix (DE.dr (dv 1)) (DE.dr d_int))) (DE.dr (d_gstr rfl T.MIRROR_FIGURES_c)))))) (dss_one ds_never) dss_nil) (dss_cons (ds_for PassesOwn.never rfl (di_seqX (d_sliceX (DE.dr (dv 1)) (dp_ex (DE.dr d_int)) dp_no)) (dg_name 2 sc_read_house.nd) (dss_one (ds_if (dt_not (dt_val (DE.dr (d_callH h_is_turn_text (hr.mono (by decide)) rfl (da_cons (dv 2) da_nil) (lenAS lenA0))))) (dss_one ds_never) dss_nil))) (dss_cons (ds_asg 3 sc_read_house.nd (d_tup (da_cons (d_callTy call_intX fnR_intX rfl T.int_b (by rfl) (dar_cons (DE.dr (d_ix (DE.dr (dv 1)) (DE.dr d_int))) dar_nil)) (da_cons (DN.de (dn_sortedT rfl T.sorted_b (dar_cons (DE.dr (DN.de (dn_comp (own := ["word"]) (frees := []) (caps := []) rfl (.of (by kernel_rfl)) rfl kn_name (di_seqX (d_sliceX (DE.dr (dv 1)) (dp_ex (DE.dr d_int)) dp_no)) (fun cl C s H fp => ⟨(dg_name 0 (show List.Nodup (["word"] : List Str) from by decide +kernel)), dq_nil, (d_callH h_read_turn (hr.mono (by decide)) rfl (da_cons (dv 0) da_nil) (lenAS lenA0))⟩)))) dar_nil))) da_nil)))) (dss_cons (ds_expr (d_callH h_check_house (hr.mono (by decide)) rfl (da_cons (dv 3) da_nil) (lenAS lenA0))) (dss_one (ds_ret (dv 3))))))))
noncomputable def F_shown_turn : FS := (seqF (asgF 3 (ifF (blF (bind2 eqF (vF 2) (cF (.int 0)))) (cF (.str "*")) (appF strD (consA (vF 2) nilA)))) (retF (bind2 addX (bind2 addX (bind2 ixD (cF (.str "abcdef")) (vF 0)) (bind2 ixD (cF (.str "abcdef")) (vF 1))) (vF 3))))
noncomputable def g_shown_turn : List D → Option D := denF 4 F_shown_turn
theorem sc_shown_turn : FnScope ["i", "j", "m", "figure"] ["i", "j", "m"] (defScope s_shown_turn) := ⟨rfl, rfl, rfl, by decide +kernel, rfl, by decide +kernel, by decide +kernel⟩
theorem ok_shown_turn {P : Program} {w : World} {K : PySem.W.Frag} {mg : Str → Option Value} {base : Heap} {f : Addr} {fd : FuncData} (Fn : Fun K "shown_turn" "shown_turn" s_shown_turn f fd) (T : Txt K mg)  :
    FnOk P w K mg base CX0 1 f fd ["i", "j", "m"] (spF K 3 g_shown_turn) :=
  fn_den (k := 0) (m := 4) (F := F_shown_turn) rfl rfl Fn sc_shown_turn fun cdv A outer s H E hr => (dss_cons (ds_asg 3 sc_shown_turn.nd (d_ifExp (dt_eq hr (DE.dr (dv 2)) (DE.dr (d_gint rfl T.NEVER_c))) (d_gstr rfl T.NEVER_SIGN_c) (d_callTy call_str_int fnR_str rfl T.str_b (by rfl) (dar_cons (DE.dr (dv 2)) dar_nil)))) (dss_one (ds_ret (d_addX (DE.dr (d_addX (DE.dr (d_ix (DE.dr (d_gstr rfl T.LETTERS_c)) (DE.dr (dv 0)))) (DE.dr (d_ix (DE.dr (d_gstr rfl T.LETTERS_c)) (DE.dr (dv 1)))))) (DE.dr (dv 3))))))
noncomputable def F_shown_house : FS := (seqF (asgF 1 (mapLst (compF 3 [] (seqX (mapLst (sortTN (consA (bind2 ixD (vF 0) (cF (.int 1))) nilA)))) (tupG 3 (consG (nameG 0) (consG (nameG 1) (consG (nameG 2) nilG)))) ttF (appF g_shown_turn (consA (vF 0) (consA (vF 1) (consA (vF 2) nilA))))))) (retF (bind2 joinD (cF (.str " ")) (bind2 addX (mapLst (lstF (consA (appF strD (consA (bind2 ixD (vF 0) (cF (.int 0))) nilA)) nilA))) (vF 1)))))
noncomputable def g_shown_house : List D → Option D := denF 2 F_shown_house
theorem sc_shown_house : FnScope ["house", "turns"] ["house"] (defScope s_shown_house) := ⟨rfl, rfl, rfl, by decide +kernel, rfl, by decide +kernel, by decide +kernel⟩
theorem ok_shown_house {P : Program} {w : World} {K : PySem.W.Frag} {mg : Str → Option Value} {base : Heap} {f : Addr} {fd : FuncData} (Fn : Fun K "shown_house" "shown_house" s_shown_house f fd) (T : Txt K mg) (h_shown_turn : HasFn P w K mg base 1 "shown_turn" 3 g_shown_turn) :
    FnOk P w K mg base CX0 2 f fd ["house"] (spF K 1 g_shown_house) :=
  fn_den (k := 1) (m := 2) (F := F_shown_house) rfl rfl Fn sc_shown_house fun cdv A outer s H E hr => (dss_cons (ds_asgComp 1 sc_shown_house.nd (own := ["i", "j", "m"]) (frees := []) (caps := []) rfl (.of (by kernel_rfl)) rfl (kn_tup (kns_cons kn_name (kns_cons kn_name (kns_cons kn_name kns_nil)))) (di_seqX (DN.de (dn_sortedT rfl T.sorted_b (dar_cons (DE.dr (d_ix (DE.dr (dv 0)) (DE.dr d_int))) dar_nil)))) (fun cl C s H fp => ⟨(dg_tup rfl (dgs_cons (dg_name 0 (show List.Nodup (["i", "j", "m"] : List Str) from by decide +kernel)) (dgs_cons (dg_name 1 (show List.Nodup (["i", "j", "m"] : List Str) from by decide +kernel)) (dgs_cons (dg_name 2 (show List.Nodup (["i", "j", "m"] : List Str) from by decide +kernel)) dgs_nil)))), dq_nil, (d_callH h_shown_turn (hr.mono (by decide)) rfl (da_cons (dv 0) (da_cons (dv 1) (da_cons (dv 2) da_nil))) (lenAS (lenAS (lenAS lenA0))))⟩)) (dss_one (ds_ret (d_joinL d_str (d_addX (DE.dr (DN.de (dn_lst (da_cons (d_callTy call_str_int fnR_str rfl T.str_b (by rfl) (dar_cons (DE.dr (d_ix (DE.dr (dv 0)) (DE.dr d_int))) dar_nil)) da_nil)))) (DE.dr (dv 1)))))))
noncomputable def F_l_at : FS := (seqF (ifS (blF (bind2 ltD (vF 1) (appF lenD (consA (vF 0) nilA)))) (retF (bind2 ixD (vF 0) (vF 1))) nxF) (retF (bind2 addX (bind2 mulD (cF (.int 17)) (vF 1)) (cF (.int 9)))))
noncomputable def g_l_at : List D → Option D := denF 2 F_l_at
theorem sc_l_at : FnScope ["_law_script", "_law_k"] ["_law_script", "_law_k"] (defScope s_l_at) := ⟨rfl, rfl, rfl, by decide +kernel, rfl, by decide +kernel, by decide +kernel⟩
theorem ok_l_at {P : Program} {w : World} {K : PySem.W.Frag} {mg : Str → Option Value} {base : Heap} {f : Addr} {fd : FuncData} (Fn : Fun K "_law_at" "_law_at" s_l_at f fd) (T : Txt K mg)  :
    FnOk P w K mg base CX0 1 f fd ["_law_script", "_law_k"] (spF K 2 g_l_at) :=
  fn_den (k := 0) (m := 2) (F := F_l_at) rfl rfl Fn sc_l_at fun cdv A outer s H E hr => (dss_cons (ds_if (dt_lt (DE.dr (dv 1)) (DE.dr (d_callB call_lenG fnR_len rfl T.len_b (by rfl) (dar_cons (DE.dr (dv 0)) dar_nil)))) (dss_one (ds_ret (d_ix (DE.dr (dv 0)) (DE.dr (dv 1))))) dss_nil) (dss_one (ds_ret (d_addX (DE.dr (d_mul (DE.dr d_int) (DE.dr (dv 1)))) (DE.dr d_int)))))
noncomputable def F_l_mix : FS := (seqF (ifS (blF (bind2 geD (vF 0) (bind2 powD (cF (.int 10)) (cF (.int 12))))) (seqF (asgF 0 (bind2 subD (bind2 fdivD (vF 0) (bind2 powD (cF (.int 10)) (cF (.int 12)))) (cF (.int 1)))) (seqF (forF (rng1 (consA (bind2 modD (vF 1) (cF (.int 61))) nilA)) (nameG 2) (asgF 0 (bind2 fdivD (vF 0) (cF (.int 2147483648))))) (retF (bind2 modD (vF 0) (cF (.int 2147483648)))))) nxF) (seqF (asgF 3 (bind2 modD (bind2 mulD (bind2 addX (bind2 addX (bind2 modD (vF 0) (cF (.int 2147483629))) (vF 1)) (cF (.int 1))) (bind2 addX (bind2 mulD (bind2 mulD (cF (.int 8)) (vF 1)) (vF 1)) (cF (.int 48271)))) (cF (.int 2147483647)))) (seqF (asgF 3 (bind2 modD (bind2 mulD (vF 3) (vF 3)) (cF (.int 2147483587)))) (retF (bind2 modD (bind2 mulD (vF 3) (bind2 addX (vF 3) (cF (.int 2)))) (cF (.int 2147483579)))))))
noncomputable def g_l_mix : List D → Option D := denF 4 F_l_mix
theorem sc_l_mix : FnScope ["_law_number", "_law_place", "_law_turn", "_law_part"] ["_law_number", "_law_place"] (defScope s_l_mix) := ⟨rfl, rfl, rfl, by decide +kernel, rfl, by decide +kernel, by decide +kernel⟩
theorem ok_l_mix {P : Program} {w : World} {K : PySem.W.Frag} {mg : Str → Option Value} {base : Heap} {f : Addr} {fd : FuncData} (Fn : Fun K "_law_mix" "_law_mix" s_l_mix f fd) (T : Txt K mg)  :
    FnOk P w K mg base CX0 1 f fd ["_law_number", "_law_place"] (spF K 2 g_l_mix) :=
  fn_den (k := 0) (m := 4) (F := F_l_mix) rfl rfl Fn sc_l_mix fun cdv A outer s H E hr => (dss_cons (ds_if (dt_ge (DE.dr (dv 0)) (DE.dr (d_pow (DE.dr d_int) (DE.dr d_int)))) (dss_cons (ds_asg 0 sc_l_mix.nd (d_sub (DE.dr (d_fdiv (DE.dr (dv 0)) (DE.dr (d_pow (DE.dr d_int) (DE.dr d_int))))) (DE.dr d_int))) (dss_cons (ds_for PassesOwn.never rfl (di_range1 rfl T.range_b (dar_cons (DE.dr (d_mod (DE.dr (dv 1)) (DE.dr d_int))) dar_nil)) (dg_name 2 sc_l_mix.nd) (dss_one (ds_asg 0 sc_l_mix.nd (d_fdiv (DE.dr (dv 0)) (DE.dr d_int))))) (dss_one (ds_ret (d_mod (DE.dr (dv 0)) (DE.dr d_int)))))) dss_nil) (dss_cons (ds_asg 3 sc_l_mix.nd (d_mod (DE.dr (d_mul (DE.dr (d_addX (DE.dr (d_addX (DE.dr (d_mod (DE.dr (dv 0)) (DE.dr d_int))) (DE.dr (dv 1)))) (DE.dr d_int))) (DE.dr (d_addX (DE.dr (d_mul (DE.dr (d_mul (DE.dr d_int) (DE.dr (dv 1)))) (DE.dr (dv 1)))) (DE.dr d_int))))) (DE.dr d_int))) (dss_cons (ds_asg 3 sc_l_mix.nd (d_mod (DE.dr (d_mul (DE.dr (dv 3)) (DE.dr (dv 3)))) (DE.dr d_int))) (dss_one (ds_ret (d_mod (DE.dr (d_mul (DE.dr (dv 3)) (DE.dr (d_addX (DE.dr (dv 3)) (DE.dr d_int))))) (DE.dr d_int)))))))
noncomputable def F_l_house : FS := (seqF (asgF 2 (appF g_l_mix (consA (appF g_l_at (consA (vF 0) (consA (vF 1) nilA))) (consA (cF (.int 1)) nilA)))) (seqF (asgF 3 (bind2 addX (cF (.int 1)) (bind2 modD (vF 2) (cF (.int 6))))) (seqF (dnewF 4) (seqF (forF (seqX (sliceX (vF 0) (exP (bind2 addX (vF 1) (cF (.int 1)))) (exP (bind2 addX (vF 1) (cF (.int 64)))))) (nameG 5) (seqF (asgF 6 (appF g_l_mix (consA (vF 5) (consA (cF (.int 2)) nilA)))) (seqF (asgF 7 (bind2 modD (vF 6) (vF 3))) (seqF (asgF 8 (bind2 modD (bind2 fdivD (vF 6) (cF (.int 8))) (vF 3))) (ifS (blF (bind2 neF (vF 7) (vF 8))) (dputF 4 (consA (appF minD (consA (vF 7) (consA (vF 8) nilA))) (consA (appF maxD (consA (vF 7) (consA (vF 8) nilA))) nilA)) (bind2 ixD (mapLst (lstF (consA (cF (.int 3)) (consA (cF (.int 4)) (consA (cF (.int 5)) (consA (cF (.int 6)) (consA (cF (.int 0)) (consA (cF (.int 3)) (consA (cF (.int 2)) (consA (cF (.int 2)) nilA)))))))))) (bind2 modD (bind2 fdivD (vF 6) (cF (.int 64))) (cF (.int 8))))) nxF))))) (seqF (asgN 9 (lstF nilA)) (seqF (forDF 4 (tupG 2 (consG (nameG 10) (consG (nameG 11) nilG))) (ifS (blF (bind2 neF (vF 11) (cF (.int 2)))) (appendF 9 (tupF (consA (bind2 ixD (vF 10) (cF (.int 0))) (consA (bind2 ixD (vF 10) (cF (.int 1))) (consA (vF 11) nilA))))) nxF)) (frzF 9 (retF (tupF (consA (vF 3) (consA (vF 9) nilA)))))))))))
noncomputable def g_l_house : List D → Option D := denF 12 F_l_house
theorem sc_l_house : FnScope ["_law_script", "_law_start", "_law_number", "_law_mirrors", "_law_told", "_law_cell", "_law_drawn", "_law_i", "_law_j", "_law_turns", "_law_pair", "_law_many"] ["_law_script", "_law_start"] (defScope s_l_house) := ⟨rfl, rfl, rfl, by decide +kernel, rfl, by decide +kernel, by decide +kernel⟩
theorem ok_l_house {P : Program} {w : World} {K : PySem.W.Frag} {mg : Str → Option Value} {base : Heap} {f : Addr} {fd : FuncData} (Fn : Fun K "_law_house" "_law_house" s_l_house f fd) (T : Txt K mg) (h_l_at : HasFn P w K mg base 1 "_law_at" 2 g_l_at) (h_l_mix : HasFn P w K mg base 1 "_law_mix" 2 g_l_mix) :
    FnOk P w K mg base CX0 2 f fd ["_law_script", "_law_start"] (spF K 2 g_l_house) :=
  fn_den (k := 1) (m := 12) (F := F_l_house) rfl rfl Fn sc_l_house fun cdv A outer s H E hr => (dss_cons (ds_asg 2 sc_l_house.nd (d_callH h_l_mix (hr.mono (by decide)) rfl (da_cons (d_callH h_l_at (hr.mono (by decide)) rfl (da_cons (dv 0) (da_cons (dv 1) da_nil)) (lenAS (lenAS lenA0))) (da_cons d_int da_nil)) (lenAS (lenAS lenA0)))) (dss_cons (ds_asg 3 sc_l_house.nd (d_addX (DE.dr d_int) (DE.dr (d_mod (DE.dr (dv 2)) (DE.dr d_int))))) (dss_cons (ds_dnew 4 sc_l_house.nd) (dss_cons (ds_for PassesOwn.never rfl (di_seqX (d_sliceX (DE.dr (dv 0)) (dp_ex (DE.dr (d_addX (DE.dr (dv 1)) (DE.dr d_int)))) (dp_ex (DE.dr (d_addX (DE.dr (dv 1)) (DE.dr d_int)))))) (dg_name 5 sc_l_house.nd) (dss_cons (ds_asg 6 sc_l_house.nd (d_callH h_l_mix (hr.mono (by decide)) rfl (da_cons (dv 5) (da_cons d_int da_nil)) (lenAS (lenAS lenA0)))) (dss_cons (ds_asg 7 sc_l_house.nd (d_mod (DE.dr (dv 6)) (DE.dr (dv 3)))) (dss_cons (ds_asg 8 sc_l_house.nd (d_mod (DE.dr (d_fdiv (DE.dr (dv 6)) (DE.dr d_int))) (DE.dr (dv 3)))) (dss_one (ds_if (dt_ne hr (DE.dr (dv 7)) (DE.dr (dv 8))) (dss_one (by refine ds_dput 4 hr ?hv ?ha; (case ha => exact (da_cons (d_callB (call_min2 rfl) fnR_min rfl T.min_b (by rfl) (dar_cons (DE.dr (dv 7)) (dar_cons (DE.dr (dv 8)) dar_nil))) (da_cons (d_callB (call_max2 rfl) fnR_max rfl T.max_b (by rfl) (dar_cons (DE.dr (dv 7)) (dar_cons (DE.dr (dv 8)) dar_nil))) da_nil))); (case hv => refine d_ix ?a ?b; (case b => exact (DE.dr (d_mod (DE.dr (d_fdiv (DE.dr (dv 6)) (DE.dr d_int))) (DE.dr d_int)))); (case a => refine DE.dr ?u; (case u => refine DN.de ?c; (case c => exact (by refine dn_lst ?l0; (case l0 => refine da_cons ?e0 ?l1; (case e0 => exact d_int); (case l1 => refine da_cons ?e1 ?l2; (case e1 => exact d_int); (case l2 => refine da_cons ?e2 ?l3; (case e2 => exact d_int); (case l3 => refine da_cons ?e3 ?l4; (case e3 => exact d_int); (case l4 => refine da_cons ?e4 ?l5; (case e4 => exact d_int); (case l5 => refine da_cons ?e5 ?l6; (case e5 => exact d_int); (case l6 => refine da_cons ?e6 ?l7; (case e6 => exact d_int); (case l7 => refine da_cons ?e7 ?l8; (case e7 => exact d_int); (case l8 => exact da_nil)))))))))))))))) dss_nil)))))) (dss_cons (ds_asgN 9 sc_l_house.nd (dn_lst da_nil)) (dss_cons (ds_forD PassesOwn.never rfl (pi_items 4) (dg_tup rfl (dgs_cons (dg_name 10 sc_l_house.nd) (dgs_cons (dg_name 11 sc_l_house.nd) dgs_nil))) (dss_one (ds_if (dt_ne hr (DE.dr (dv 11)) (DE.dr d_int)) (dss_one (ds_append 9 (d_tup (da_cons (d_ix (DE.dr (dv 10)) (DE.dr d_int)) (da_cons (d_ix (DE.dr (dv 10)) (DE.dr d_int)) (da_cons (dv 11) da_nil)))))) dss_nil))) (dss_frz 9 (dss_one (ds_ret (d_tup (da_cons (dv 3) (da_cons (dv 9) da_nil))))))))))))
noncomputable def F_l_whole : FS := (retF (andV (bind1 (isTy "int") (vF 0)) (notV (bind1 (isTy "bool") (vF 0)))))
noncomputable def g_l_whole : List D → Option D := denF 1 F_l_whole
theorem sc_l_whole : FnScope ["_law_found"] ["_law_found"] (defScope s_l_whole) := ⟨rfl, rfl, rfl, by decide +kernel, rfl, by decide +kernel, by decide +kernel⟩
theorem ok_l_whole {P : Program} {w : World} {K : PySem.W.Frag} {mg : Str → Option Value} {base : Heap} {f : Addr} {fd : FuncData} (Fn : Fun K "_law_whole" "_law_whole" s_l_whole f fd) (T : Txt K mg)  :
    FnOk P w K mg base CX0 1 f fd ["_law_found"] (spF K 1 g_l_whole) :=
  fn_den (k := 0) (m := 1) (F := F_l_whole) rfl rfl Fn sc_l_whole fun cdv A outer s H E hr => (dss_one (ds_ret (d_and (d_isTy ty_int (DE.dr (dv 0)) rfl T.isinstance_b rfl T.int_b) (d_one (d_not (d_isTy ty_bool (DE.dr (dv 0)) rfl T.isinstance_b rfl T.bool_b))))))
noncomputable def F_l_words : FS := (seqF (asgN 1 (lstF nilA)) (seqF (forF (rng1 (consA (bind2 ixD (vF 0) (cF (.int 0))) nilA)) (nameG 2) (forF (rng2 (consA (bind2 addX (vF 2) (cF (.int 1))) (consA (bind2 ixD (vF 0) (cF (.int 0))) nilA))) (nameG 3) (forF (seqX (bind2 ixD (vF 0) (cF (.int 1)))) (tupG 3 (consG (nameG 4) (consG (nameG 5) (consG (nameG 6) nilG)))) (ifS (andT (blF (bind2 eqF (vF 4) (vF 2))) (blF (bind2 eqF (vF 5) (vF 3)))) (appendF 1 (bind2 addX (bind2 addX (bind2 ixD (cF (.str "abcdef")) (vF 2)) (bind2 ixD (cF (.str "abcdef")) (vF 3))) (bind2 ixD (cF (.str "*003456")) (vF 6)))) nxF)))) (frzF 1 (retF (vF 1)))))
noncomputable def g_l_words : List D → Option D := denF 7 F_l_words
theorem sc_l_words : FnScope ["_law_house_here", "_law_words_here", "_law_i", "_law_j", "_law_one", "_law_other", "_law_many"] ["_law_house_here"] (defScope s_l_words) := ⟨rfl, rfl, rfl, by decide +kernel, rfl, by decide +kernel, by decide +kernel⟩
theorem ok_l_words {P : Program} {w : World} {K : PySem.W.Frag} {mg : Str → Option Value} {base : Heap} {f : Addr} {fd : FuncData} (Fn : Fun K "_law_words" "_law_words" s_l_words f fd) (T : Txt K mg)  :
    FnOk P w K mg base CX0 1 f fd ["_law_house_here"] (spF K 1 g_l_words) :=
  fn_den (k := 0) (m := 7) (F := F_l_words) rfl rfl Fn sc_l_words fun cdv A outer s H E hr => (dss_cons (ds_asgN 1 sc_l_words.nd (dn_lst da_nil)) (dss_cons (ds_for PassesOwn.never rfl (di_range1 rfl T.range_b (dar_cons (DE.dr (d_ix (DE.dr (dv 0)) (DE.dr d_int))) dar_nil)) (dg_name 2 sc_l_words.nd) (dss_one (ds_for PassesOwn.never rfl (di_range2 rfl T.range_b (dar_cons (DE.dr (d_addX (DE.dr (dv 2)) (DE.dr d_int))) (dar_cons (DE.dr (d_ix (DE.dr (dv 0)) (DE.dr d_int))) dar_nil))) (dg_name 3 sc_l_words.nd) (dss_one (ds_for PassesOwn.never rfl (di_seqX (d_ix (DE.dr (dv 0)) (DE.dr d_int))) (dg_tup rfl (dgs_cons (dg_name 4 sc_l_words.nd) (dgs_cons (dg_name 5 sc_l_words.nd) (dgs_cons (dg_name 6 sc_l_words.nd) dgs_nil)))) (dss_one (ds_if (DW.dt (dw_and (dt_eq hr (DE.dr (dv 4)) (DE.dr (dv 2))) (dw_and1 (dt_eq hr (DE.dr (dv 5)) (DE.dr (dv 3)))))) (dss_one (ds_append 1 (d_addX (DE.dr (d_addX (DE.dr (d_ix (DE.dr d_str) (DE.dr (dv 2)))) (DE.dr (d_ix (DE.dr d_str) (DE.dr (dv 3)))))) (DE.dr (d_ix (DE.dr d_str) (DE.dr (dv 6))))))) dss_nil))))))) (dss_frz 1 (dss_one (ds_ret (dv 1))))))
noncomputable def F_l_same : FS := (seqF (ifS (orT (notT (blF (bind1 (isTy "tuple") (vF 0)))) (orT (blF (bind2 neF (appF lenD (consA (vF 0) nilA)) (cF (.int 2)))) (orT (notT (blF (appF g_l_whole (consA (bind2 ixD (vF 0) (cF (.int 0))) nilA)))) (notT (blF (bind1 (isTy "list") (bind2 ixD (vF 0) (cF (.int 1))))))))) (retF (cF (.bl false))) nxF) (seqF (forF (seqX (bind2 ixD (vF 0) (cF (.int 1)))) (nameG 2) (ifS (orT (notT (blF (bind1 (isTy "tuple") (vF 2)))) (blF (bind2 gtD (appF lenD (consA (mapLst (compF 1 [] (seqX (vF 2)) (nameG 0) (notT (blF (appF g_l_whole (consA (vF 0) nilA)))) (vF 0))) nilA)) (cF (.int 0))))) (retF (cF (.bl false))) nxF)) (retF (bind2 eqF (vF 0) (tupF (consA (bind2 ixD (vF 1) (cF (.int 0))) (consA (mapLst (sortTN (consA (bind2 ixD (vF 1) (cF (.int 1))) nilA))) nilA)))))))
noncomputable def g_l_same : List D → Option D := denF 3 F_l_same
theorem sc_l_same : FnScope ["_law_found", "_law_house_here", "_law_turn"] ["_law_found", "_law_house_here"] (defScope s_l_same) := ⟨rfl, rfl, rfl, by decide +kernel, rfl, by decide +kernel, by decide +kernel⟩
theorem ok_l_same {P : Program} {w : World} {K : PySem.W.Frag} {mg : Str → Option Value} {base : Heap} {f : Addr} {fd : FuncData} (Fn : Fun K "_law_same" "_law_same" s_l_same f fd) (T : Txt K mg) (h_l_whole : HasFn P w K mg base 1 "_law_whole" 1 g_l_whole) :
    FnOk P w K mg base CX0 2 f fd ["_law_found", "_law_house_here"] (spF K 2 g_l_same) :=
  fn_den (k := 1) (m := 3) (F := F_l_same) rfl rfl Fn sc_l_same fun cdv A outer s H E hr => (dss_cons (ds_if (DW.dt (dw_or (dt_not (dt_val (DE.dr (d_isTy ty_tuple (DE.dr (dv 0)) rfl T.isinstance_b rfl T.tuple_b)))) (dw_or (dt_ne hr (DE.dr (d_callB call_lenG fnR_len rfl T.len_b (by rfl) (dar_cons (DE.dr (dv 0)) dar_nil))) (DE.dr d_int)) (dw_or (dt_not (dt_val (DE.dr (d_callH h_l_whole (hr.mono (by decide)) rfl (da_cons (d_ix (DE.dr (dv 0)) (DE.dr d_int)) da_nil) (lenAS lenA0))))) (dw_or1 (dt_not (dt_val (DE.dr (d_isTy ty_list (DE.dr (d_ix (DE.dr (dv 0)) (DE.dr d_int))) rfl T.isinstance_b rfl T.list_b))))))))) (dss_one (ds_ret d_bl)) dss_nil) (dss_cons (ds_for PassesOwn.never rfl (di_seqX (d_ix (DE.dr (dv 0)) (DE.dr d_int))) (dg_name 2 sc_l_same.nd) (dss_one (ds_if (DW.dt (dw_or (dt_not (dt_val (DE.dr (d_isTy ty_tuple (DE.dr (dv 2)) rfl T.isinstance_b rfl T.tuple_b)))) (dw_or1 (dt_gt (DE.dr (d_callB call_lenG fnR_len rfl T.len_b (by rfl) (dar_cons (DE.dr (DN.de (dn_comp (own := ["_law_part"]) (frees := []) (caps := []) rfl (.of (by kernel_rfl)) rfl kn_name (di_seqX (dv 2)) (fun cl C s H fp => ⟨(dg_name 0 (show List.Nodup (["_law_part"] : List Str) from by decide +kernel)), (dq_one (dt_not (dt_val (DE.dr (d_callH h_l_whole (hr.mono (by decide)) rfl (da_cons (dv 0) da_nil) (lenAS lenA0)))))), (dv 0)⟩)))) dar_nil))) (DE.dr d_int))))) (dss_one (ds_ret d_bl)) dss_nil))) (dss_one (ds_ret (d_eq hr (DE.dr (dv 0)) (DE.dr (d_tup (da_cons (d_ix (DE.dr (dv 1)) (DE.dr d_int)) (da_cons (DN.de (dn_sortedT rfl T.sorted_b (dar_cons (DE.dr (d_ix (DE.dr (dv 1)) (DE.dr d_int))) dar_nil))) da_nil)))))))))
noncomputable def F_0 : FS := (asgF 1 (appF g_l_house (consA (vF 0) (consA (cF (.int 0)) nilA))))
noncomputable def F_1 : FS := (asgF 2 (appF g_l_words (consA (vF 1) nilA)))
noncomputable def F_2 : FS := (asgF 3 (tupF (consA (bind2 ixD (vF 1) (cF (.int 0))) (consA (mapLst (listN (consA (bind2 ixD (vF 1) (cF (.int 1))) nilA))) nilA))))
noncomputable def F_3 : FS := (asgF 4 (appF g_shown_house (consA (vF 3) nilA)))
noncomputable def F_4 : FS := (ifS (orT (notT (blF (bind1 (isTy "str") (vF 4)))) (orT (blF (bind2 neF (vF 4) (bind2 joinD (cF (.str " ")) (bind2 addX (mapLst (lstF (consA (appF strD (consA (bind2 ixD (vF 1) (cF (.int 0))) nilA)) nilA))) (vF 2))))) (blF (bind2 neF (vF 3) (vF 1))))) (retF (cF (.bl false))) nxF)
noncomputable def F_t : FS := (seqF (asgF 6 (appF g_l_mix (consA (appF g_l_at (consA (vF 0) (consA (cF (.int 0)) nilA))) (consA (cF (.int 5)) nilA)))) (seqF (asgF 7 (bind2 modD (vF 6) (bind2 addX (appF lenD (consA (vF 2) nilA)) (cF (.int 1))))) (seqF (asgF 8 (bind2 addX (sliceX (vF 2) (exP (vF 7)) noP) (sliceX (vF 2) noP (exP (vF 7))))) (seqF (ifS (blF (bind2 eqF (bind2 modD (bind2 fdivD (vF 6) (cF (.int 64))) (cF (.int 2))) (cF (.int 0)))) (asgF 8 (revF (vF 8) (bind1 negD (cF (.int 1))))) nxF) (retF (andV (appF g_l_same (consA (appF g_read_house (consA (bind2 joinD (cF (.str " ")) (bind2 addX (mapLst (lstF (consA (appF strD (consA (bind2 ixD (vF 1) (cF (.int 0))) nilA)) nilA))) (vF 8))) nilA)) (consA (vF 1) nilA))) (appF g_l_same (consA (appF g_read_house (consA (vF 4) nilA)) (consA (vF 1) nilA)))))))))
abbrev rhoL (s h w hd : D) (t : Str) : Rho := [.fr s, .fr h, .fr w, .fr hd, .fr (.str t), .no, .no, .no, .no]
def GL (s : D) : Prop := ∃ h w hd t x ys, seqF F_0 (seqF F_1 (seqF F_2 (seqF F_3 F_4))) [.fr s, .no, .no, .no, .no, .no, .no, .no, .no] = some (.nx (rhoL s h w hd t)) ∧ g_read_house [.str t] = some (.tup [x, .lst ys]) ∧ ys.length < sizeLine ∧ g_l_same [.tup [x, .lst ys], h] = some (.bl true) ∧ F_t (rhoL s h w hd t) = some (.rt (.bl true))
noncomputable def g_law : List D → Option D
  | [s] => @ite _ (GL s) (Classical.propDecidable _) (some (.bl true)) none
  | _ => none
theorem sc_law : FnScope ["_law_script", "_law_house_here", "_law_words_here", "_law_handed", "_law_told", "_law_found", "_law_number", "_law_at_here", "_law_mixed"] ["_law_script"] (defScope s_law) := ⟨rfl, rfl, rfl, by decide +kernel, rfl, by decide +kernel, by decide +kernel⟩
theorem ok_law {P : Program} {w : World} {K : PySem.W.Frag} {mg : Str → Option Value} {base : Heap} {f : Addr} {fd : FuncData} (Fn : Fun K "law" "law" s_law f fd) (T : Txt K mg) (noL : noLst K = true)
    (h_l_at : HasFn P w K mg base 1 "_law_at" 2 g_l_at) (h_l_house : HasFn P w K mg base 2 "_law_house" 2 g_l_house) (h_l_mix : HasFn P w K mg base 1 "_law_mix" 2 g_l_mix) (h_l_same : HasFn P w K mg base 2 "_law_same" 2 g_l_same) (h_l_words : HasFn P w K mg base 1 "_law_words" 1 g_l_words) (h_read_house : HasFn P w K mg base 2 "read_house" 1 g_read_house) (h_shown_house : HasFn P w K mg base 2 "shown_house" 1 g_shown_house) :
    FnOk P w K mg base CX0 3 f fd ["_law_script"] (spF K 1 g_law) := by
  obtain ⟨f1, fd1, ps1, F1, m1, k1, b1⟩ := h_read_house.ex
  obtain ⟨f2, fd2, ps2, F2, m2, k2, b2⟩ := h_l_same.ex
  refine Fn.ok (k := 2) sc_law (fun vs H Q E h => ?_) (fun cdv A outer s H vs Q E hr h => ?_)
  · obtain ⟨Hf, ds, d, _, h1, h2, _⟩ := h
    rw [h1.length]; exact h2
  obtain ⟨Hf, ds, d, sf, hl, hn, hg, q⟩ := h
  have tl : DSs (cxOf CX0 P w K mg base ["_law_script", "_law_house_here", "_law_words_here", "_law_handed", "_law_told", "_law_found", "_law_number", "_law_at_here", "_law_mixed"] "law" (defScope s_law) f cdv A outer s H E).nox ((defBody s_law).drop 8) F_t := (dss_cons (ds_asg 6 sc_law.nd (d_callH h_l_mix (hr.mono (by decide)) rfl (da_cons (d_callH h_l_at (hr.mono (by decide)) rfl (da_cons (dv 0) (da_cons d_int da_nil)) (lenAS (lenAS lenA0))) (da_cons d_int da_nil)) (lenAS (lenAS lenA0)))) (dss_cons (ds_asg 7 sc_law.nd (d_mod (DE.dr (dv 6)) (DE.dr (d_addX (DE.dr (d_callB call_lenG fnR_len rfl T.len_b (by rfl) (dar_cons (DE.dr (dv 2)) dar_nil))) (DE.dr d_int))))) (dss_cons (ds_asg 8 sc_law.nd (d_addX (DE.dr (d_sliceX (DE.dr (dv 2)) (dp_ex (DE.dr (dv 7))) dp_no)) (DE.dr (d_sliceX (DE.dr (dv 2)) dp_no (dp_ex (DE.dr (dv 7))))))) (dss_cons (ds_if (dt_eq hr (DE.dr (d_mod (DE.dr (d_fdiv (DE.dr (dv 6)) (DE.dr d_int))) (DE.dr d_int))) (DE.dr d_int)) (dss_one (ds_asg 8 sc_law.nd (d_rev (DE.dr (dv 8)) (DE.dr (d_neg (DE.dr d_int)))))) dss_nil) (dss_one (ds_ret (d_and (d_callH h_l_same (hr.mono (by decide)) rfl (da_cons (d_callH h_read_house (hr.mono (by decide)) rfl (da_cons (d_joinL d_str (d_addX (DE.dr (DN.de (dn_lst (da_cons (d_callTy call_str_int fnR_str rfl T.str_b (by rfl) (dar_cons (DE.dr (d_ix (DE.dr (dv 1)) (DE.dr d_int))) dar_nil)) da_nil)))) (DE.dr (dv 8)))) da_nil) (lenAS lenA0)) (da_cons (dv 1) da_nil)) (lenAS (lenAS lenA0))) (d_one (d_callH h_l_same (hr.mono (by decide)) rfl (da_cons (d_callH h_read_house (hr.mono (by decide)) rfl (da_cons (dv 4) da_nil) (lenAS lenA0)) (da_cons (dv 1) da_nil)) (lenAS (lenAS lenA0)))))))))))
  refine ⟨_, pss_cons (ds_asg 1 sc_law.nd (d_callH h_l_house (hr.mono (by decide)) rfl (da_cons (dv 0) (da_cons d_int da_nil)) (lenAS (lenAS lenA0)))) (pss_cons (ds_asg 2 sc_law.nd (d_callH h_l_words (hr.mono (by decide)) rfl (da_cons (dv 1) da_nil) (lenAS lenA0))) (pss_cons (ds_asg 3 sc_law.nd (d_tup (da_cons (d_ix (DE.dr (dv 1)) (DE.dr d_int)) (da_cons (DN.de (dn_list rfl T.list_b (dar_cons (DE.dr (d_ix (DE.dr (dv 1)) (DE.dr d_int))) dar_nil))) da_nil)))) (pss_cons (ds_asg 4 sc_law.nd (d_callH h_shown_house (hr.mono (by decide)) rfl (da_cons (dv 3) da_nil) (lenAS lenA0))) (pss_cons (ds_if (DW.dt (dw_or (dt_not (dt_val (DE.dr (d_isTy ty_str (DE.dr (dv 4)) rfl T.isinstance_b rfl T.str_b)))) (dw_or (dt_ne hr (DE.dr (dv 4)) (DE.dr (d_joinL d_str (d_addX (DE.dr (DN.de (dn_lst (da_cons (d_callTy call_str_int fnR_str rfl T.str_b (by rfl) (dar_cons (DE.dr (d_ix (DE.dr (dv 1)) (DE.dr d_int))) dar_nil)) da_nil)))) (DE.dr (dv 2)))))) (dw_or1 (dt_ne hr (DE.dr (dv 3)) (DE.dr (dv 1))))))) (dss_one (ds_ret d_bl)) dss_nil)
    (pss_cons (ps_set (i := 5) sc_law.nd (by rfl) (.inl rfl) (pe_call F1 (hr.mono (by decide)) (by rfl) m1 k1 b1 .nil pass0 (pa_cons (pv 4) pa_nil)))
    (pss_cons (ps_if (pt_not (pt_val (pe_call F2 (hr.mono (by decide)) (by rfl) m2 k2 b2 .nil pass0 (pa_cons (pv 5) (pa_cons (pv 1) pa_nil))))) (pss_one (ps_ret pe_bl)) pss_nil)
    (pss_cons (ps_thaw (ps_expr (pe_bm PySem.F.plainAttrs_list PySem.F.slot_list_append PySem.F.type_list_append mt_append (pe_ix ix_tup (pv 5) pe_int (by intro _ _; rfl)) (pa_cons (pe_tup (pa_cons pe_int (pa_cons pe_int (pa_cons pe_int pa_nil)))) pa_nil)))) tl))))))), ?_⟩
  obtain ⟨d0, rfl⟩ : ∃ d0, ds = [d0] := by
    match ds, hn with
    | [a], _ => exact ⟨a, rfl⟩
  have hg : @ite _ (GL d0) (Classical.propDecidable _) (some (D.bl true)) none = some d := hg
  by_cases gl : GL d0
  case neg => rw [if_neg gl] at hg; cases hg
  rw [if_pos gl] at hg
  cases hg
  obtain ⟨hh, ww, hd, t, x, ys, e, er, hz, es, et⟩ := gl
  obtain ⟨ρ1, e0, e⟩ := seq_split e
  obtain ⟨ρ2, e1, e⟩ := seq_split e
  obtain ⟨ρ3, e2, e⟩ := seq_split e
  obtain ⟨ρ4, e3, e4⟩ := seq_split e
  have R0 := rep_start (N := ["_law_script", "_law_house_here", "_law_words_here", "_law_handed", "_law_told", "_law_found", "_law_number", "_law_at_here", "_law_mixed"]) sf hl
  refine ⟨H, Hf, _, Hf, .nx ρ1, R0, e0, fun σ1 H1 Hf1 R1 t1 => ?_⟩
  refine ⟨H, Hf, _, Hf1, .nx ρ2, R1, e1, fun σ2 H2 Hf2 R2 t2 => ?_⟩
  refine ⟨H, Hf, _, Hf2, .nx ρ3, R2, e2, fun σ3 H3 Hf3 R3 t3 => ?_⟩
  refine ⟨H, Hf, _, Hf3, .nx ρ4, R3, e3, fun σ4 H4 Hf4 R4 t4 => ?_⟩
  refine ⟨H, Hf, _, Hf4, .nx (rhoL d0 hh ww hd t), R4, e4, fun σ5 H5 Hf5 R5 t5 => ?_⟩
  have hlen : σ5.length = 9 := R5.len.symm
  obtain ⟨v4, ev4, hv4⟩ := R5.fr 4 (.str t) rfl
  obtain ⟨v1, ev1, hv1⟩ := R5.fr 1 hh rfl
  have e4' := Has.str_iff.mp hv4
  subst e4'
  refine ⟨_, ev4, ?_⟩
  unfold tNil
  refine ⟨fun _ => none, [.str t], .tup [x, .lst ys], (fun b o z => by cases z), ⟨_, _, rfl, Has.str_iff.mpr rfl, rfl⟩, rfl, er, fun v H6 Hf6 gr hv => ?_⟩
  have hv6 : Has K H6 (.tup [x, .lst ys]) v := hv.mono gr.fh
  refine ⟨v, by rw [List.getElem?_set_self (by rw [hlen]; decide)], v1, by rw [List.getElem?_set_ne (by decide)]; exact ev1, ?_⟩
  refine ⟨H6, [.tup [x, .lst ys], hh], .bl true, sameR, ⟨_, _, rfl, hv6, _, _, rfl, (hv1.mono R5.sf).mono gr.h, rfl⟩, rfl, es, fun b H7 Hf7 gr7 hb => ?_⟩
  have eb := Has.bl_iff.mp hb
  subst eb
  refine ⟨true, rfl, iteF ?_⟩
  -- the list
  obtain ⟨p, xs, rfl, qp, lp⟩ := Has.tup_iff.mp hv
  obtain ⟨vx, r1, rfl, hx, l1⟩ := HasL.cons_iff.mp lp
  obtain ⟨vl, r2, rfl, hvl, l2⟩ := HasL.cons_iff.mp l1
  rw [HasL.nil_iff] at l2
  subst l2
  obtain ⟨l, zs, rfl, ql, ll⟩ := Has.lst_iff.mp hvl
  have s67 : Same Hf6 H7 := gr.fh.trans gr7.h
  have qp7 : SqT K H7 p [vx, .ref l] := by
    rcases qp with (z | ⟨o, z⟩) | z
    · exact .inl (.inl (s67 _ _ z))
    · exact .inl (.inr ⟨o, s67 _ _ z⟩)
    · exact .inr z
  have lenz : zs.length = ys.length := ll.length
  have fresh : ∀ o, Hf6 l = some o → (¬ Tp o) → H5 l = none := fun o e nt => by
    rcases gr.new l o e with z | z | z
    · cases z
    · exact z
    · exact absurd z nt
  have fin : ∀ H8 : Hp, (∀ b o, H5 b = some o → H8 b = some o) → tS K F_t { nx := fun _ H' => Q .non H', rt := Q } (σ5.set 5 (some (.ref p))) H8 := fun H8 s8 => by
    have R8 : Rep K H Hf (σ5.set 5 (some (.ref p))) (rhoL d0 hh ww hd t) H8 Hf5 := (R5.dropAt 5 (some (.ref p))).grow s8 sameR (R5.sf.trans s8) (fun b o e => .inl e)
    exact ⟨H, Hf, _, Hf5, _, R8, et, fun v σ' ρ' H' Hf' R' _ hv => q v H' Hf' ⟨R'.s0, R'.f0, R'.sf, R'.nf⟩ hv⟩
  have done : ∀ Hx : Hp, (∀ b o, H5 b = some o → Hx b = some o) → H5 l = none → Hx l = some (.lst zs) → SqT K Hx p [vx, .ref l] →
      tDrop (tBM K "list" rAppend (tOp (rIxT K) (tVar 5) (tC (.int 1))) (tCons (tTup (tCons (tC (.int 0)) (tCons (tC (.int 0)) (tCons (tC (.int 0)) tNil)))) tNil)) { nx := fun σ' H' => tS K F_t { nx := fun _ H' => Q .non H', rt := Q } σ' H', rt := Q } (σ5.set 5 (some (.ref p))) Hx := fun Hx s5 hn hl qx => by
    refine ⟨.ref p, List.getElem?_set_self (by rw [hlen]; decide), p, [vx, .ref l], 1, .ref l, rfl, rfl, qx, atI_nat (j := 1) rfl, .inl ⟨rfl, zs, .inl (.inl hl)⟩, (show 3 ≤ sizeLine from by decide), fun b hb => ?_⟩
    have nb : l ≠ b := fun z => by subst z; rw [hl] at hb; cases hb
    refine ⟨l, zs, _, rfl, rfl, by rw [upd_ne nb]; exact hl, by rw [lenz]; exact hz, fin _ fun c o ec => ?_⟩
    have n1 : c ≠ l := fun z => by subst z; rw [hn] at ec; cases ec
    have n2 : c ≠ b := fun z => by subst z; have := s5 _ _ ec; rw [hb] at this; cases this
    rw [upd_ne n1, upd_ne n2]
    exact s5 c o ec
  have s57 : ∀ b o, H5 b = some o → H7 b = some o := fun b o e => gr7.h b o (gr.h b o e)
  rcases ql with q1 | ⟨o, its, n, lk, hc, _⟩
  · rcases q1 with q1 | ⟨o, q1⟩
    · exact .inl (done H7 s57 (fresh _ q1 (by rintro ⟨_, z⟩; cases z)) (s67 _ _ q1) qp7)
    · have nl := fresh _ q1 (by rintro ⟨_, z⟩; cases z)
      refine .inr ⟨l, o, zs, s67 _ _ q1, ?_, done _ (fun b u e => ?_) nl upd_same ?_⟩
      · cases z : H l with
        | none => exact z
        | some u => have := R5.s0 _ _ z; rw [nl] at this; cases this
      · rw [upd_ne (fun z => by subst z; rw [nl] at e; cases e)]; exact s57 b u e
      · rcases qp7 with (z | ⟨o', z⟩) | z
        · refine .inl (.inl ?_)
          rw [upd_ne (fun y => by subst y; rw [s67 _ _ q1] at z; cases z)]; exact z
        · refine .inl (.inr ⟨o', ?_⟩)
          rw [upd_ne (fun y => by subst y; rw [s67 _ _ q1] at z; cases z)]; exact z
        · exact .inr z
  · exact absurd hc (noLst_not noL lk)
theorem all_mk {l : PySem.W.OpenLaw} {w : World} {K : PySem.W.Frag} {h : Heap} {mg : Str → Option Value} {fa : Addr} (X : K.In h) (G : h.Ns mainGlobals mg) (hfa : mg "law" = some (.ref fa))
    {f0 : Addr} {oc0 : Value} {od0 an0 : Option Addr} {osl0 : Array (Option Value)} {kV0 doc0 pm0 cdv0 ct0 : Value}
    {f1 : Addr} {oc1 : Value} {od1 an1 : Option Addr} {osl1 : Array (Option Value)} {kV1 doc1 pm1 cdv1 ct1 : Value}
    {f2 : Addr} {oc2 : Value} {od2 an2 : Option Addr} {osl2 : Array (Option Value)} {kV2 doc2 pm2 cdv2 ct2 : Value}
    {f3 : Addr} {oc3 : Value} {od3 an3 : Option Addr} {osl3 : Array (Option Value)} {kV3 doc3 pm3 cdv3 ct3 : Value}
    {f4 : Addr} {oc4 : Value} {od4 an4 : Option Addr} {osl4 : Array (Option Value)} {kV4 doc4 pm4 cdv4 ct4 : Value}
    {f5 : Addr} {oc5 : Value} {od5 an5 : Option Addr} {osl5 : Array (Option Value)} {kV5 doc5 pm5 cdv5 ct5 : Value}
    {f6 : Addr} {oc6 : Value} {od6 an6 : Option Addr} {osl6 : Array (Option Value)} {kV6 doc6 pm6 cdv6 ct6 : Value}
    {f7 : Addr} {oc7 : Value} {od7 an7 : Option Addr} {osl7 : Array (Option Value)} {kV7 doc7 pm7 cdv7 ct7 : Value}
    {f8 : Addr} {oc8 : Value} {od8 an8 : Option Addr} {osl8 : Array (Option Value)} {kV8 doc8 pm8 cdv8 ct8 : Value}
    {f9 : Addr} {oc9 : Value} {od9 an9 : Option Addr} {osl9 : Array (Option Value)} {kV9 doc9 pm9 cdv9 ct9 : Value}
    {f10 : Addr} {oc10 : Value} {od10 an10 : Option Addr} {osl10 : Array (Option Value)} {kV10 doc10 pm10 cdv10 ct10 : Value}
    {f11 : Addr} {oc11 : Value} {od11 an11 : Option Addr} {osl11 : Array (Option Value)} {kV11 doc11 pm11 cdv11 ct11 : Value}
    {f12 : Addr} {oc12 : Value} {od12 an12 : Option Addr} {osl12 : Array (Option Value)} {kV12 doc12 pm12 cdv12 ct12 : Value}
    {t_LETTERS : Tok}
    {t_MIRROR_FIGURES : Tok}
    {t_NEVER : Tok}
    {t_NEVER_SIGN : Tok}
    {tk_TOLD_TURNS_0 : Tok}
    {tk_TOLD_TURNS_1 : Tok}
    {tk_TOLD_TURNS_2 : Tok}
    {tk_TOLD_TURNS_3 : Tok}
    {tk_TOLD_TURNS_4 : Tok}
    {ta_TOLD_TURNS : Addr} {od_TOLD_TURNS : Option Addr} {n_TOLD_TURNS : Nat} {osl_TOLD_TURNS : Array (Option Value)}
    {t_TURN_FIGURES : Tok}
    (a0 : PySem.W.nsIn K mainGlobals "check_house" = some (some (.ref f0))) (l0 : K.lookup f0 = some ⟨oc0, od0, .func (PySem.W.fnOf "check_house" "check_house" (defArgs s_check_house) (defBody s_check_house) (defScope s_check_house) .none kV0 doc0 pm0 an0 cdv0 ct0), osl0⟩) (c0 : PySem.W.codeIn K cdv0 "check_house" = true) (k0 : PySem.W.keepIn K (.ref f0) = true)
    (a1 : PySem.W.nsIn K mainGlobals "is_turn_text" = some (some (.ref f1))) (l1 : K.lookup f1 = some ⟨oc1, od1, .func (PySem.W.fnOf "is_turn_text" "is_turn_text" (defArgs s_is_turn_text) (defBody s_is_turn_text) (defScope s_is_turn_text) .none kV1 doc1 pm1 an1 cdv1 ct1), osl1⟩) (c1 : PySem.W.codeIn K cdv1 "is_turn_text" = true) (k1 : PySem.W.keepIn K (.ref f1) = true)
    (a2 : PySem.W.nsIn K mainGlobals "read_turn" = some (some (.ref f2))) (l2 : K.lookup f2 = some ⟨oc2, od2, .func (PySem.W.fnOf "read_turn" "read_turn" (defArgs s_read_turn) (defBody s_read_turn) (defScope s_read_turn) .none kV2 doc2 pm2 an2 cdv2 ct2), osl2⟩) (c2 : PySem.W.codeIn K cdv2 "read_turn" = true) (k2 : PySem.W.keepIn K (.ref f2) = true)
    (a3 : PySem.W.nsIn K mainGlobals "read_house" = some (some (.ref f3))) (l3 : K.lookup f3 = some ⟨oc3, od3, .func (PySem.W.fnOf "read_house" "read_house" (defArgs s_read_house) (defBody s_read_house) (defScope s_read_house) .none kV3 doc3 pm3 an3 cdv3 ct3), osl3⟩) (c3 : PySem.W.codeIn K cdv3 "read_house" = true) (k3 : PySem.W.keepIn K (.ref f3) = true)
    (a4 : PySem.W.nsIn K mainGlobals "shown_turn" = some (some (.ref f4))) (l4 : K.lookup f4 = some ⟨oc4, od4, .func (PySem.W.fnOf "shown_turn" "shown_turn" (defArgs s_shown_turn) (defBody s_shown_turn) (defScope s_shown_turn) .none kV4 doc4 pm4 an4 cdv4 ct4), osl4⟩) (c4 : PySem.W.codeIn K cdv4 "shown_turn" = true) (k4 : PySem.W.keepIn K (.ref f4) = true)
    (a5 : PySem.W.nsIn K mainGlobals "shown_house" = some (some (.ref f5))) (l5 : K.lookup f5 = some ⟨oc5, od5, .func (PySem.W.fnOf "shown_house" "shown_house" (defArgs s_shown_house) (defBody s_shown_house) (defScope s_shown_house) .none kV5 doc5 pm5 an5 cdv5 ct5), osl5⟩) (c5 : PySem.W.codeIn K cdv5 "shown_house" = true) (k5 : PySem.W.keepIn K (.ref f5) = true)
    (a6 : PySem.W.nsIn K mainGlobals "_law_at" = some (some (.ref f6))) (l6 : K.lookup f6 = some ⟨oc6, od6, .func (PySem.W.fnOf "_law_at" "_law_at" (defArgs s_l_at) (defBody s_l_at) (defScope s_l_at) .none kV6 doc6 pm6 an6 cdv6 ct6), osl6⟩) (c6 : PySem.W.codeIn K cdv6 "_law_at" = true) (k6 : PySem.W.keepIn K (.ref f6) = true)
    (a7 : PySem.W.nsIn K mainGlobals "_law_mix" = some (some (.ref f7))) (l7 : K.lookup f7 = some ⟨oc7, od7, .func (PySem.W.fnOf "_law_mix" "_law_mix" (defArgs s_l_mix) (defBody s_l_mix) (defScope s_l_mix) .none kV7 doc7 pm7 an7 cdv7 ct7), osl7⟩) (c7 : PySem.W.codeIn K cdv7 "_law_mix" = true) (k7 : PySem.W.keepIn K (.ref f7) = true)
    (a8 : PySem.W.nsIn K mainGlobals "_law_house" = some (some (.ref f8))) (l8 : K.lookup f8 = some ⟨oc8, od8, .func (PySem.W.fnOf "_law_house" "_law_house" (defArgs s_l_house) (defBody s_l_house) (defScope s_l_house) .none kV8 doc8 pm8 an8 cdv8 ct8), osl8⟩) (c8 : PySem.W.codeIn K cdv8 "_law_house" = true) (k8 : PySem.W.keepIn K (.ref f8) = true)
    (a9 : PySem.W.nsIn K mainGlobals "_law_whole" = some (some (.ref f9))) (l9 : K.lookup f9 = some ⟨oc9, od9, .func (PySem.W.fnOf "_law_whole" "_law_whole" (defArgs s_l_whole) (defBody s_l_whole) (defScope s_l_whole) .none kV9 doc9 pm9 an9 cdv9 ct9), osl9⟩) (c9 : PySem.W.codeIn K cdv9 "_law_whole" = true) (k9 : PySem.W.keepIn K (.ref f9) = true)
    (a10 : PySem.W.nsIn K mainGlobals "_law_words" = some (some (.ref f10))) (l10 : K.lookup f10 = some ⟨oc10, od10, .func (PySem.W.fnOf "_law_words" "_law_words" (defArgs s_l_words) (defBody s_l_words) (defScope s_l_words) .none kV10 doc10 pm10 an10 cdv10 ct10), osl10⟩) (c10 : PySem.W.codeIn K cdv10 "_law_words" = true) (k10 : PySem.W.keepIn K (.ref f10) = true)
    (a11 : PySem.W.nsIn K mainGlobals "_law_same" = some (some (.ref f11))) (l11 : K.lookup f11 = some ⟨oc11, od11, .func (PySem.W.fnOf "_law_same" "_law_same" (defArgs s_l_same) (defBody s_l_same) (defScope s_l_same) .none kV11 doc11 pm11 an11 cdv11 ct11), osl11⟩) (c11 : PySem.W.codeIn K cdv11 "_law_same" = true) (k11 : PySem.W.keepIn K (.ref f11) = true)
    (a12 : PySem.W.nsIn K mainGlobals "law" = some (some (.ref f12))) (l12 : K.lookup f12 = some ⟨oc12, od12, .func (PySem.W.fnOf "law" "law" (defArgs s_law) (defBody s_law) (defScope s_law) .none kV12 doc12 pm12 an12 cdv12 ct12), osl12⟩) (c12 : PySem.W.codeIn K cdv12 "law" = true) (k12 : PySem.W.keepIn K (.ref f12) = true)
    (b_bool : PySem.W.nsIn K mainGlobals "bool" = some none)
    (b_int : PySem.W.nsIn K mainGlobals "int" = some none)
    (b_isinstance : PySem.W.nsIn K mainGlobals "isinstance" = some none)
    (b_len : PySem.W.nsIn K mainGlobals "len" = some none)
    (b_list : PySem.W.nsIn K mainGlobals "list" = some none)
    (b_max : PySem.W.nsIn K mainGlobals "max" = some none)
    (b_min : PySem.W.nsIn K mainGlobals "min" = some none)
    (b_range : PySem.W.nsIn K mainGlobals "range" = some none)
    (b_sorted : PySem.W.nsIn K mainGlobals "sorted" = some none)
    (b_str : PySem.W.nsIn K mainGlobals "str" = some none)
    (b_tuple : PySem.W.nsIn K mainGlobals "tuple" = some none)
    (q_LETTERS : PySem.W.nsIn K mainGlobals "LETTERS" = some (some (.str "abcdef" t_LETTERS)))
    (q_MIRROR_FIGURES : PySem.W.nsIn K mainGlobals "MIRROR_FIGURES" = some (some (.str "123456" t_MIRROR_FIGURES)))
    (q_NEVER : PySem.W.nsIn K mainGlobals "NEVER" = some (some (.int 0 t_NEVER)))
    (q_NEVER_SIGN : PySem.W.nsIn K mainGlobals "NEVER_SIGN" = some (some (.str "*" t_NEVER_SIGN)))
    (q_TOLD_TURNS : PySem.W.nsIn K mainGlobals "TOLD_TURNS" = some (some (.ref ta_TOLD_TURNS)))
    (r_TOLD_TURNS : K.lookup ta_TOLD_TURNS = some ⟨.type "tuple", od_TOLD_TURNS, .seq #[.int 0 tk_TOLD_TURNS_0, .int 3 tk_TOLD_TURNS_1, .int 4 tk_TOLD_TURNS_2, .int 5 tk_TOLD_TURNS_3, .int 6 tk_TOLD_TURNS_4] n_TOLD_TURNS, osl_TOLD_TURNS⟩)
    (q_TURN_FIGURES : PySem.W.nsIn K mainGlobals "TURN_FIGURES" = some (some (.str "3456" t_TURN_FIGURES)))
    (knl : noLst K = true)
    : ∃ fd : FuncData, (∀ (s : Shared) (v : Value), BindsTo s fd ⟨[v], []⟩ [("_law_script", v)]) ∧ ∀ base : Heap, K.In base → base.Ns mainGlobals mg → FnOk l.prog w K mg base CX0 3 fa fd ["_law_script"] (spF K 1 g_law) := by
  have e := hfa.symm.trans (PySem.W.mg_of X G a12)
  cases e
  have T : Txt K mg := ⟨trivial, PySem.W.mg_none_of X G b_bool, PySem.W.mg_none_of X G b_int, PySem.W.mg_none_of X G b_isinstance, PySem.W.mg_none_of X G b_len, PySem.W.mg_none_of X G b_list, PySem.W.mg_none_of X G b_max, PySem.W.mg_none_of X G b_min, PySem.W.mg_none_of X G b_range, PySem.W.mg_none_of X G b_sorted, PySem.W.mg_none_of X G b_str, PySem.W.mg_none_of X G b_tuple, ⟨_, PySem.W.mg_of X G q_LETTERS⟩, ⟨_, PySem.W.mg_of X G q_MIRROR_FIGURES⟩, ⟨_, PySem.W.mg_of X G q_NEVER⟩, ⟨_, PySem.W.mg_of X G q_NEVER_SIGN⟩, gtup_mk (xs := [.int 0, .int 3, .int 4, .int 5, .int 6]) (PySem.W.mg_of X G q_TOLD_TURNS) r_TOLD_TURNS (show 5 ≤ sizeLine from by decide) (.cons ⟨_, rfl⟩ (.cons ⟨_, rfl⟩ (.cons ⟨_, rfl⟩ (.cons ⟨_, rfl⟩ (.cons ⟨_, rfl⟩ .nil))))) (.cons (Has.int_iff.mpr rfl) (.cons (Has.int_iff.mpr rfl) (.cons (Has.int_iff.mpr rfl) (.cons (Has.int_iff.mpr rfl) (.cons (Has.int_iff.mpr rfl) .nil))))), ⟨_, PySem.W.mg_of X G q_TURN_FIGURES⟩⟩
  have F0 := fun_mk (st := s_check_house) l0 c0 k0
  have B0 := F0.binds (ps := ["house"]) fun _ _ _ _ _ _ => all1 (fun _ => rfl)
  have F1 := fun_mk (st := s_is_turn_text) l1 c1 k1
  have B1 := F1.binds (ps := ["word"]) fun _ _ _ _ _ _ => all1 (fun _ => rfl)
  have F2 := fun_mk (st := s_read_turn) l2 c2 k2
  have B2 := F2.binds (ps := ["word"]) fun _ _ _ _ _ _ => all1 (fun _ => rfl)
  have F3 := fun_mk (st := s_read_house) l3 c3 k3
  have B3 := F3.binds (ps := ["text"]) fun _ _ _ _ _ _ => all1 (fun _ => rfl)
  have F4 := fun_mk (st := s_shown_turn) l4 c4 k4
  have B4 := F4.binds (ps := ["i", "j", "m"]) fun _ _ _ _ _ _ => all3 (fun _ _ _ => rfl)
  have F5 := fun_mk (st := s_shown_house) l5 c5 k5
  have B5 := F5.binds (ps := ["house"]) fun _ _ _ _ _ _ => all1 (fun _ => rfl)
  have F6 := fun_mk (st := s_l_at) l6 c6 k6
  have B6 := F6.binds (ps := ["_law_script", "_law_k"]) fun _ _ _ _ _ _ => all2 (fun _ _ => rfl)
  have F7 := fun_mk (st := s_l_mix) l7 c7 k7
  have B7 := F7.binds (ps := ["_law_number", "_law_place"]) fun _ _ _ _ _ _ => all2 (fun _ _ => rfl)
  have F8 := fun_mk (st := s_l_house) l8 c8 k8
  have B8 := F8.binds (ps := ["_law_script", "_law_start"]) fun _ _ _ _ _ _ => all2 (fun _ _ => rfl)
  have F9 := fun_mk (st := s_l_whole) l9 c9 k9
  have B9 := F9.binds (ps := ["_law_found"]) fun _ _ _ _ _ _ => all1 (fun _ => rfl)
  have F10 := fun_mk (st := s_l_words) l10 c10 k10
  have B10 := F10.binds (ps := ["_law_house_here"]) fun _ _ _ _ _ _ => all1 (fun _ => rfl)
  have F11 := fun_mk (st := s_l_same) l11 c11 k11
  have B11 := F11.binds (ps := ["_law_found", "_law_house_here"]) fun _ _ _ _ _ _ => all2 (fun _ _ => rfl)
  have F12 := fun_mk (st := s_law) l12 c12 k12
  have B12 := F12.binds (ps := ["_law_script"]) fun _ _ _ _ _ _ => all1 (fun _ => rfl)
  refine ⟨PySem.W.fnOf "law" "law" (defArgs s_law) (defBody s_law) (defScope s_law) .none kV12 doc12 pm12 an12 cdv12 ct12, fun s v => .of_eq rfl, fun base _ _ => ?_⟩
  have H0 : HasFn l.prog w K mg base 1 "check_house" 1 g_check_house := ⟨⟨_, _, _, ok_check_house F0 T , PySem.W.mg_of X G a0, k0, B0⟩⟩
  have H1 : HasFn l.prog w K mg base 1 "is_turn_text" 1 g_is_turn_text := ⟨⟨_, _, _, ok_is_turn_text F1 T , PySem.W.mg_of X G a1, k1, B1⟩⟩
  have H2 : HasFn l.prog w K mg base 1 "read_turn" 1 g_read_turn := ⟨⟨_, _, _, ok_read_turn F2 T , PySem.W.mg_of X G a2, k2, B2⟩⟩
  have H3 : HasFn l.prog w K mg base 2 "read_house" 1 g_read_house := ⟨⟨_, _, _, ok_read_house F3 T H0 H1 H2, PySem.W.mg_of X G a3, k3, B3⟩⟩
  have H4 : HasFn l.prog w K mg base 1 "shown_turn" 3 g_shown_turn := ⟨⟨_, _, _, ok_shown_turn F4 T , PySem.W.mg_of X G a4, k4, B4⟩⟩
  have H5 : HasFn l.prog w K mg base 2 "shown_house" 1 g_shown_house := ⟨⟨_, _, _, ok_shown_house F5 T H4, PySem.W.mg_of X G a5, k5, B5⟩⟩
  have H6 : HasFn l.prog w K mg base 1 "_law_at" 2 g_l_at := ⟨⟨_, _, _, ok_l_at F6 T , PySem.W.mg_of X G a6, k6, B6⟩⟩
  have H7 : HasFn l.prog w K mg base 1 "_law_mix" 2 g_l_mix := ⟨⟨_, _, _, ok_l_mix F7 T , PySem.W.mg_of X G a7, k7, B7⟩⟩
  have H8 : HasFn l.prog w K mg base 2 "_law_house" 2 g_l_house := ⟨⟨_, _, _, ok_l_house F8 T H6 H7, PySem.W.mg_of X G a8, k8, B8⟩⟩
  have H9 : HasFn l.prog w K mg base 1 "_law_whole" 1 g_l_whole := ⟨⟨_, _, _, ok_l_whole F9 T , PySem.W.mg_of X G a9, k9, B9⟩⟩
  have H10 : HasFn l.prog w K mg base 1 "_law_words" 1 g_l_words := ⟨⟨_, _, _, ok_l_words F10 T , PySem.W.mg_of X G a10, k10, B10⟩⟩
  have H11 : HasFn l.prog w K mg base 2 "_law_same" 2 g_l_same := ⟨⟨_, _, _, ok_l_same F11 T H9, PySem.W.mg_of X G a11, k11, B11⟩⟩
  exact ok_law F12 T knl H6 H8 H7 H11 H10 H3 H5
open TX
theorem eqs (x y : Str) : eqF (.str x) (.str y) = some (.bl (decide (cp x = cp y))) := by
  show (if dep (.str x) ≤ 100 then some (D.bl (eqD (.str x) (.str y))) else none) = _
  rw [if_pos (by simp [dep])]
  show some (D.bl (x == y)) = _
  rw [cp_beq]
theorem litA : cp "abcdef" = [97, 98, 99, 100, 101, 102] := by rw [show cp "abcdef" = _ from PyProof.Rows.signs_ofString "abcdef"]; rfl
theorem cp_one (c : Nat) : cp ⟨#[c]⟩ = [c] := rfl
theorem sz1 {n : Nat} (h : n ≤ 900) : n ≤ sizeLine := Nat.le_of_lt (small1000 (by omega))
theorem ins_n (c : Nat) (z : Str) : inD true (.str ⟨#[c]⟩) (.str z) = some (.bl (!decide (c ∈ cp z))) := by
  show some (D.bl (xor true (inS ⟨#[c]⟩ z))) = _
  rw [in_one]; simp
theorem ins_p (c : Nat) (z : Str) : inD false (.str ⟨#[c]⟩) (.str z) = some (.bl (decide (c ∈ cp z))) := by
  show some (D.bl (xor false (inS ⟨#[c]⟩ z))) = _
  rw [in_one]; simp
theorem seq_nx {F G : FS} {ρ ρ' : Rho} (h : F ρ = some (.nx ρ')) : seqF F G ρ = G ρ' := by rw [s_seqF, h]; rfl
theorem seq_rt {F G : FS} {ρ : Rho} {d : D} (h : F ρ = some (.rt d)) : seqF F G ρ = some (.rt d) := by rw [s_seqF, h]; rfl
theorem ifS_t {c : FT} {F G : FS} {ρ : Rho} (h : c ρ = some true) : ifS c F G ρ = F ρ := by rw [s_ifS, h]; rfl
theorem ifS_f {c : FT} {F G : FS} {ρ : Rho} (h : c ρ = some false) : ifS c F G ρ = G ρ := by rw [s_ifS, h]; rfl
def tx (cs : List Nat) : Str := ⟨cs.toArray⟩
theorem cp_tx (cs : List Nat) : cp (tx cs) = cs := by simp [cp, tx]
theorem tx_cp (z : Str) : tx (cp z) = z := cp_ext (cp_tx _)
theorem cmapL {α : Type} {f : FE} {C : List FL.Slot} {φ ψ : α → D} : ∀ (xs : List α) (s : FL.Slot), (∀ x ∈ xs, f (.fr (φ x) :: C) = some (ψ x)) → compGo (nameG 0) ttF f (xs.map φ) (s :: C) = some (xs.map ψ)
  | [], _, _ => rfl
  | x :: xs, s, h => by
    have ih := cmapL (f := f) (C := C) (φ := φ) (ψ := ψ) xs (.fr (φ x)) (fun y e => h y (List.mem_cons_of_mem _ e))
    rw [List.map_cons]
    unfold compGo
    simp only [s_nameG, List.set_cons_zero, Option.bind_some, s_ttF, if_true, h x List.mem_cons_self, ih, List.map_cons]
theorem cnone {ft : FT} {f : FE} {C : List FL.Slot} : ∀ (ds : List D) (s : FL.Slot), (∀ d ∈ ds, ft (.fr d :: C) = some false) → compGo (nameG 0) ft f ds (s :: C) = some []
  | [], _, _ => rfl
  | d :: ds, s, h => by
    have ih := cnone (ft := ft) (f := f) (C := C) ds (.fr d) (fun y e => h y (List.mem_cons_of_mem _ e))
    unfold compGo
    simp only [s_nameG, List.set_cons_zero, Option.bind_some, h d List.mem_cons_self, ih, Bool.false_eq_true, if_false]
def isL (c : Nat) : Bool := decide (97 ≤ c ∧ c ≤ 102)
theorem isL_iff {c : Nat} : isL c = true ↔ 97 ≤ c ∧ c ≤ 102 := by unfold isL; exact decide_eq_true_iff
theorem at6 {i c : Nat} : ([97, 98, 99, 100, 101, 102] : List Nat)[i]? = some c ↔ i < 6 ∧ c = 97 + i := by
  rcases i with _ | _ | _ | _ | _ | _ | i <;> simp <;> omega
theorem mem6 {c : Nat} : decide (c ∈ cp "abcdef") = isL c := by
  unfold isL
  rw [litA]
  apply decide_eq_decide.mpr
  simp only [List.mem_cons, List.not_mem_nil, or_false]
  omega
theorem fnd (c : Nat) : Txt.find "abcdef" ⟨#[c]⟩ = if isL c = true then (c : Int) - 97 else -1 := by
  rcases PyProof.Rows.find_whole "abcdef" ⟨#[c]⟩ with ⟨h0, h1⟩ | ⟨i, h0, h1, _⟩
  · have : ¬ isL c = true := fun h => by
      have h := isL_iff.mp h
      refine absurd ((StrLaws.subAt_one "abcdef" c (c - 97)).mpr ?_) (h1 (c - 97))
      show (cp "abcdef")[c - 97]? = some c
      rw [litA, at6]; omega
    rw [h0, if_neg this]
  · have hi : (cp "abcdef")[i]? = some c := (StrLaws.subAt_one "abcdef" c i).mp h1
    rw [litA, at6] at hi
    have : isL c = true := isL_iff.mpr (by omega)
    rw [h0, if_pos this]; omega
theorem idx_find {z y : Str} {i : Nat} (h : Txt.find z y = (i : Int)) : idxS z y = some i := by
  unfold idxS
  unfold Txt.find at h
  cases e : Builtin.Str.occurrences z y 0 z.length 1 with
  | nil => rw [e] at h; exact absurd h (by simp)
  | cons j r =>
    rw [e] at h
    have : (j : Int) = (i : Int) := h
    have : j = i := by omega
    rw [this]; rfl
theorem idx6 {c : Nat} (h : isL c = true) : idxD (.str "abcdef") (.str ⟨#[c]⟩) = some (.int ((c : Int) - 97)) := by
  have h' := isL_iff.mp h
  have e : Txt.find "abcdef" ⟨#[c]⟩ = ((c - 97 : Nat) : Int) := by rw [fnd, if_pos h]; omega
  show (idxS "abcdef" ⟨#[c]⟩).map _ = _
  rw [idx_find e]
  show some (D.int ((c - 97 : Nat) : Int)) = _
  congr 2
  omega
theorem ne_same {d : D} (h : dep d ≤ 100) : neF d d = some (.bl false) := by unfold neF; rw [if_pos h, eqD_refl]; rfl
theorem eq_same {d : D} (h : dep d ≤ 100) : eqF d d = some (.bl true) := by unfold eqF; rw [if_pos h, eqD_refl]
theorem ix0 {x : D} {l : List D} : ixD (.tup (x :: l)) (.int 0) = some x := by simp [ixD, atI, ixN]
theorem ix1 {x y : D} {l : List D} : ixD (.tup (x :: y :: l)) (.int 1) = some y := by
  have h := atI_nat (xs := x :: y :: l) (j := 1) (v := y) rfl
  exact h
theorem len_str {z : Str} (h : (cp z).length ≤ 900) : lenD [.str z] = some (.int (cp z).length) := by
  show (if z.length ≤ sizeLine then some (D.int z.length) else none) = _
  rw [cp_len, if_pos (sz1 h)]
theorem add_str {x y : Str} (h : (cp x).length + (cp y).length ≤ 900) : addX (.str x) (.str y) = some (.str (x ++ y)) := by
  show (if x.length + y.length ≤ sizeLine then _ else _) = _
  rw [if_pos (by rw [cp_len, cp_len]; exact sz1 h)]
theorem ixA {i : Int} (h0 : 0 ≤ i) (h1 : i < 6) : ixD (.str "abcdef") (.int i) = some (.str ⟨#[97 + i.toNat]⟩) := by
  obtain ⟨k, rfl⟩ := Int.eq_ofNat_of_zero_le h0
  show (if ("abcdef" : Str).length ≤ sizeLine then (atI (cp "abcdef") (k : Int)).map fun c => D.str ⟨#[c]⟩ else none) = _
  rw [if_pos (by rw [cp_len, litA]; exact sz1 (by decide)), litA, atI_nat (at6.mpr ⟨by omega, rfl⟩)]
  rfl
theorem lent : cp "abcdefghijklmnopqrstuvwxyz{|}~" = ("abcdefghijklmnopqrstuvwxyz{|}~" : String).toList.map Char.toNat := PyProof.Rows.signs_ofString _
open GH
theorem szl {n : Nat} (h : n ≤ 100) : n ≤ sizeLine := Nat.le_of_lt (small1000 (by omega))
abbrev kyT (t : T3) : List Key := [.inl t.1, .inl t.2.1]
def gM (m : Int) : Prop := m = 0 ∨ (3 ≤ m ∧ m ≤ 6)
instance (m : Int) : Decidable (gM m) := by unfold gM; exact inferInstance
def gR (n : Int) (t : T3) : Prop := 0 ≤ t.1 ∧ t.1 < t.2.1 ∧ t.2.1 < n
instance (n : Int) (t : T3) : Decidable (gR n t) := by unfold gR; exact inferInstance
theorem in5 (b : Bool) (m : Int) : inD b (.int m) (.tup [.int 0, .int 3, .int 4, .int 5, .int 6]) = some (.bl (xor b (decide (gM m)))) := by
  show (if depL [D.int 0, .int 3, .int 4, .int 5, .int 6] ≤ 100 then some (D.bl (b ^^ [D.int 0, .int 3, .int 4, .int 5, .int 6].any fun d => eqD d (.int m))) else none) = _
  rw [if_pos (by simp [depL, dep])]
  have : ([D.int 0, .int 3, .int 4, .int 5, .int 6].any fun d => eqD d (.int m)) = decide (gM m) := by
    by_cases h : gM m
    · have : m = 0 ∨ m = 3 ∨ m = 4 ∨ m = 5 ∨ m = 6 := by unfold gM at h; omega
      rcases this with e | e | e | e | e <;> subst e <;> simp [eqD, gM]
    · have h' : ¬ (m = 0) ∧ ¬ (m = 3) ∧ ¬ (m = 4) ∧ ¬ (m = 5) ∧ ¬ (m = 6) := by unfold gM at h; omega
      obtain ⟨h0, h3, h4, h5, h6⟩ := h'
      rw [decide_eq_false h]
      simp [eqD, h0, h3, h4, h5, h6, Ne.symm h0, Ne.symm h3, Ne.symm h4, Ne.symm h5, Ne.symm h6]
  rw [this]
noncomputable def tC1 : FT := (notT (blF (chain3F leD ltD ltD (cF (.int 0)) (vF 3) (vF 4) (vF 1))))
noncomputable def tC2 : FT := (blF (bind2 (inD true) (vF 5) (cF (.tup [(.int 0), (.int 3), (.int 4), (.int 5), (.int 6)]))))
noncomputable def tC3 : FT := (dinT 2 (consA (vF 3) (consA (vF 4) nilA)))
noncomputable def pC : FS := (dputF 2 (consA (vF 3) (consA (vF 4) nilA)) (cF (.bl true)))
noncomputable def chB : FSX := (sqX (ifX tC1 (exX "NoHouse") nxX) (sqX (ifX tC2 (exX "NoHouse") nxX) (sqX (ifX tC3 (exX "NoHouse") nxX) (liftX pC))))
noncomputable def chN : FS := (seqF (ifS tC1 neverF nxF) (seqF (ifS tC2 neverF nxF) (seqF (ifS tC3 neverF nxF) pC)))
section
variable (h : FL.Slot) (n : Int) (kvs : List (List Key × D)) (t : T3)
abbrev chR (h : FL.Slot) (n : Int) (kvs : List (List Key × D)) (t : T3) : Rho := [h, .fr (.int n), .oT kvs, .fr (.int t.1), .fr (.int t.2.1), .fr (.int t.2.2)]
theorem tC1_val : tC1 (chR h n kvs t) = some (!decide (gR n t)) := by
  unfold tC1 gR
  simp only [s_notT, s_blF, s_chain3F, s_cF, s_vF, List.getElem?_cons_succ, List.getElem?_cons_zero, Option.bind_some, s_le, s_lt]
  by_cases h1 : 0 ≤ t.1
  · by_cases h2 : t.1 < t.2.1
    · simp [h1, h2]
    · simp [h1, h2]
  · simp [h1]
theorem tC2_val : tC2 (chR h n kvs t) = some (!decide (gM t.2.2)) := by
  unfold tC2
  simp only [s_blF, s_bind2, s_vF, s_cF, List.getElem?_cons_succ, List.getElem?_cons_zero, Option.bind_some, in5]
  simp
theorem tC3_val : tC3 (chR h n kvs t) = some (kvs.any fun kv => decide (kv.1 = kyT t)) := by
  unfold tC3
  have z2 : 0 + 1 + 1 ≤ sizeLine := szl (by decide)
  have ko : keysOf [.int t.1, .int t.2.1] = some [.inl t.1, .inl t.2.1] := rfl
  simp only [s_dinT, s_consA, s_nilA, s_vF, List.getElem?_cons_succ, List.getElem?_cons_zero, Option.bind_some, ko, List.length_cons, List.length_nil, if_pos z2]
theorem pC_val (hk : kvs.length ≤ 500) (hn : (kvs.any fun kv => decide (kv.1 = kyT t)) = false) : pC (chR h n kvs t) = some (.nx (chR h n (kvs ++ [(kyT t, .bl true)]) t)) := by
  unfold pC
  have z2 : 0 + 1 + 1 ≤ sizeLine := szl (by decide)
  have ko : keysOf [.int t.1, .int t.2.1] = some [.inl t.1, .inl t.2.1] := rfl
  have cnd : kvs.length < sizeLine ∧ 0 + 1 + 1 ≤ sizeLine := ⟨small1000 (by omega), z2⟩
  have pu : putD kvs [.inl t.1, .inl t.2.1] (.bl true) = kvs ++ [(kyT t, .bl true)] := by unfold putD; rw [hn]; simp
  simp only [s_dputF, s_consA, s_nilA, s_vF, s_cF, List.getElem?_cons_succ, List.getElem?_cons_zero, Option.bind_some, ko, List.length_cons, List.length_nil, if_pos cnd, List.set_cons_succ, List.set_cons_zero, pu]
theorem ch_ok (h1 : gR n t) (h2 : gM t.2.2) (hn : (kvs.any fun kv => decide (kv.1 = kyT t)) = false) (hk : kvs.length ≤ 500) :
    chB (chR h n kvs t) = some (.o (.nx (chR h n (kvs ++ [(kyT t, .bl true)]) t))) ∧ chN (chR h n kvs t) = some (.nx (chR h n (kvs ++ [(kyT t, .bl true)]) t)) := by
  have e1 := tC1_val h n kvs t
  have e2 := tC2_val h n kvs t
  have e3 := tC3_val h n kvs t
  rw [decide_eq_true h1] at e1
  rw [decide_eq_true h2] at e2
  rw [hn] at e3
  have e4 := pC_val h n kvs t hk hn
  constructor
  · simp only [chB, sqX, ifX, liftX, nxX, e1, e2, e3, e4, Option.bind_some, Bool.not_true, Bool.false_eq_true, if_false, Option.map_some]
  · simp only [chN, s_seqF, s_ifS, s_nxF, e1, e2, e3, e4, Option.bind_some, Bool.not_true, Bool.false_eq_true, if_false]
end
noncomputable def γ3 : FG := (tupG 3 (consG (nameG 3) (consG (nameG 4) (consG (nameG 5) nilG))))
theorem γ3_val (h : FL.Slot) (n : Int) (kvs : List (List Key × D)) (t : T3) (s3 s4 s5 : FL.Slot) : γ3 (tD t) [h, .fr (.int n), .oT kvs, s3, s4, s5] = some (chR h n kvs t) := by
  simp only [γ3, tD, s_tupG, s_consG, s_nameG, s_nilG, List.length_cons, List.length_nil, Nat.reduceAdd, if_true, List.set_cons_succ, List.set_cons_zero, Option.bind_some]
theorem any_key {kvs : List (List Key × D)} {k : List Key} : (kvs.any fun kv => decide (kv.1 = k)) = true ↔ k ∈ kvs.map (·.1) := by
  rw [List.any_eq_true]
  constructor
  · rintro ⟨x, hx, e⟩
    exact List.mem_map.mpr ⟨x, hx, by simpa using e⟩
  · intro hx
    obtain ⟨x, hx, e⟩ := List.mem_map.mp hx
    exact ⟨x, hx, by simpa using e⟩
theorem any_nkey {kvs : List (List Key × D)} {k : List Key} (h : k ∉ kvs.map (·.1)) : (kvs.any fun kv => decide (kv.1 = k)) = false := by
  cases e : kvs.any fun kv => decide (kv.1 = k) with
  | false => rfl
  | true => exact absurd (any_key.mp e) h
theorem ch_pass (h : FL.Slot) (n : Int) : ∀ (ts : List T3) (rest : List D) (kvs : List (List Key × D)) (s3 s4 s5 : FL.Slot), (∀ t ∈ ts, gR n t ∧ gM t.2.2) → (kvs.map (·.1) ++ ts.map kyT).Nodup → kvs.length + ts.length ≤ 500 →
    ∃ (kvs' : List (List Key × D)) (r3 r4 r5 : FL.Slot), kvs'.map (·.1) = kvs.map (·.1) ++ ts.map kyT ∧ kvs'.length = kvs.length + ts.length ∧
      loopX γ3 chB (ts.map tD ++ rest) [h, .fr (.int n), .oT kvs, s3, s4, s5] = loopX γ3 chB rest [h, .fr (.int n), .oT kvs', r3, r4, r5] ∧
      loopF γ3 chN (ts.map tD ++ rest) [h, .fr (.int n), .oT kvs, s3, s4, s5] = loopF γ3 chN rest [h, .fr (.int n), .oT kvs', r3, r4, r5]
  | [], rest, kvs, s3, s4, s5, hg, hn, hl => ⟨kvs, s3, s4, s5, by simp, rfl, rfl, rfl⟩
  | t :: ts, rest, kvs, s3, s4, s5, hg, hn, hl => by
    rw [List.length_cons] at hl
    obtain ⟨h1, h2⟩ := hg t List.mem_cons_self
    have hk : kyT t ∉ kvs.map (·.1) := fun z => by
      rw [List.map_cons, List.nodup_append] at hn
      exact hn.2.2 _ z _ List.mem_cons_self rfl
    obtain ⟨c1, c2⟩ := ch_ok h n kvs t h1 h2 (any_nkey hk) (by omega)
    obtain ⟨kvs', r3, r4, r5, m1, m2, e1, e2⟩ := ch_pass h n ts rest (kvs ++ [(kyT t, .bl true)]) (.fr (.int t.1)) (.fr (.int t.2.1)) (.fr (.int t.2.2)) (fun u hu => hg u (List.mem_cons_of_mem _ hu)) (by simpa using hn) (by simp; omega)
    refine ⟨kvs', r3, r4, r5, by rw [m1]; simp, by rw [m2]; simp; omega, ?_, ?_⟩
    · rw [← e1, List.map_cons, List.cons_append, loopX, γ3_val, Option.bind_some, c1, Option.bind_some]
    · rw [← e2, List.map_cons, List.cons_append, loopF, γ3_val, Option.bind_some, c2, Option.bind_some]
theorem len6 : lenD [.str "abcdef"] = some (.int 6) := by
  have : (Str.ofString "abcdef").length = 6 := by decide +kernel
  simp [lenD, this]
  exact szl (by decide)
def GoodH (n : Int) (ts : List T3) : Prop := (∀ t ∈ ts, gR n t ∧ gM t.2.2) ∧ (ts.map kyT).Nodup
theorem g_good {n : Int} {ts : List T3} (h1 : 1 ≤ n) (h6 : n ≤ 6) (hg : GoodH n ts) (hl : ts.length ≤ 200) : g_check_house [.tup [.int n, .lst (ts.map tD)]] = some .non := by
  have i0 : ixD (.tup [.int n, .lst (ts.map tD)]) (.int 0) = some (.int n) := ix0
  have i1 : ixD (.tup [.int n, .lst (ts.map tD)]) (.int 1) = some (.lst (ts.map tD)) := ix1
  have c : (notT (blF (chainF leD leD (cF (.int 1)) (vF 1) (appF lenD (consA (cF (.str "abcdef")) nilA))))) [.fr (.tup [.int n, .lst (ts.map tD)]), .fr (.int n), .no, .no, .no, .no] = some false := by
    simp only [s_notT, s_blF, s_chainF, s_cF, s_vF, s_appF, s_consA, s_nilA, List.getElem?_cons_succ, List.getElem?_cons_zero, Option.bind_some, s_le, len6]
    simp [h1, h6]
  obtain ⟨kvs, r3, r4, r5, _, _, _, e⟩ := ch_pass (.fr (.tup [.int n, .lst (ts.map tD)])) n ts [] [] .no .no .no hg.1 (by simpa using hg.2) (by simp; omega)
  rw [List.append_nil] at e
  unfold γ3 chN tC1 tC2 tC3 pC at e
  have sq : seqOfX (.lst (ts.map tD)) = some (ts.map tD) := rfl
  simp only [g_check_house, s_denF, F_check_house, s_startR, List.map_cons, List.map_nil, List.length_cons, List.length_nil, Nat.reduceAdd, Nat.reduceSub, List.replicate, List.cons_append, List.nil_append, s_seqF, s_asgF, s_bind2, s_vF, s_cF, List.getElem?_cons_zero, List.getElem?_cons_succ, Option.bind_some, i0, List.set_cons_succ, List.set_cons_zero, s_ifS, c, Bool.false_eq_true, if_false, s_nxF, s_dnewF, s_forF, s_seqX, i1, sq]
  rw [e]
  rfl
theorem GoodH.perm {n : Int} {ts us : List T3} (h : ts.Perm us) (g : GoodH n ts) : GoodH n us := ⟨fun t ht => g.1 t (h.mem_iff.mpr ht), ((h.map kyT).nodup_iff).mp g.2⟩
open GH
theorem cut_mid {α : Type} (xs : List α) (a b : Nat) (h : a ≤ b) : cutL xs (some (a : Int)) (some (b : Int)) = (xs.drop a).take (b - a) := by
  unfold cutL
  rw [HT.sIx_nat, HT.sIx_nat]
  by_cases h1 : a ≤ xs.length
  · by_cases h2 : b ≤ xs.length
    · rw [Nat.min_eq_left h1, Nat.min_eq_left h2]
    · rw [Nat.min_eq_left h1, Nat.min_eq_right (by omega), List.take_of_length_le (by simp), List.take_of_length_le (by simp; omega)]
  · rw [Nat.min_eq_right (by omega), Nat.min_eq_right (by omega), List.drop_of_length_le (Nat.le_refl _), List.drop_of_length_le (by omega)]
    simp
theorem at0_val (ns : List Int) (hl : ns.length ≤ 63) : ∃ z, g_l_at [.lst (ns.map D.int), .int 0] = some (.int z) := by
  have m : mulD (.int 17) (.int 0) = some (.int (17 * 0)) := mulD_ok (mulOk_r (by decide) (by decide))
  by_cases h : 0 < ns.length
  · have e : ixD (.lst (ns.map D.int)) (.int ((0 : Nat) : Int)) = some (.int (ns.getD 0 0)) := atI_nat (by simp [List.getD_eq_getElem?_getD, h])
    have e' : ixD (.lst (ns.map D.int)) (.int 0) = some (.int (ns.getD 0 0)) := e
    have h' : (0 : Int) < (ns.length : Int) := by omega
    exact ⟨_, by simp only [g_l_at, F_l_at, s_denF, s_startR, List.map_cons, List.map_nil, List.length_cons, List.length_nil, Nat.reduceAdd, Nat.reduceSub, List.replicate, List.cons_append, List.nil_append, List.append_nil, s_seqF, s_ifS, s_blF, s_bind2, s_vF, s_appF, s_consA, s_nilA, s_cF, List.getElem?_cons_zero, List.getElem?_cons_succ, Option.bind_some, s_lenL, List.length_map, s_lt, h', decide_true, if_true, s_retF, e', s_outR]; rfl⟩
  · have h' : ¬ ((0 : Int) < (ns.length : Int)) := by omega
    exact ⟨_, by simp only [g_l_at, F_l_at, s_denF, s_startR, List.map_cons, List.map_nil, List.length_cons, List.length_nil, Nat.reduceAdd, Nat.reduceSub, List.replicate, List.cons_append, List.nil_append, List.append_nil, s_seqF, s_ifS, s_blF, s_bind2, s_vF, s_appF, s_consA, s_nilA, s_cF, List.getElem?_cons_zero, List.getElem?_cons_succ, Option.bind_some, s_lenL, List.length_map, s_lt, h', decide_false, Bool.false_eq_true, if_false, s_nxF, s_retF, m, s_add, s_outR]; rfl⟩
theorem mix_loop (k : Int) (s3 : FL.Slot) : ∀ (l : List D) (c : Int) (s2 : FL.Slot), ∃ (c' : Int) (s2' : FL.Slot), loopF (nameG 2) (asgF 0 (bind2 fdivD (vF 0) (cF (.int 2147483648)))) l [.fr (.int c), .fr (.int k), s2, s3] = some (.nx [.fr (.int c'), .fr (.int k), s2', s3])
  | [], c, s2 => ⟨c, s2, rfl⟩
  | d :: l, c, s2 => by
    obtain ⟨c', s2', e⟩ := mix_loop k s3 l (c / 2147483648) (.fr d)
    refine ⟨c', s2', ?_⟩
    have f := fdivD_ok (i := c) (show (0 : Int) < 2147483648 by decide) (by decide)
    unfold loopF
    simp only [s_nameG, Option.bind_some, List.set_cons_succ, List.set_cons_zero, s_asgF, s_bind2, s_vF, s_cF, List.getElem?_cons_zero, List.getElem?_cons_succ, f]
    exact e
theorem mix_valI (c k : Int) (hk0 : 0 ≤ k) (hk : k ≤ 10) : ∃ z : Int, 0 ≤ z ∧ g_l_mix [.int c, .int k] = some (.int z) := by
  have p12 : powD (.int 10) (.int 12) = some (.int (10 ^ 12)) := powD_ok ⟨by decide, by decide, lt_big (k := 8) (by decide) (by decide)⟩
  by_cases hc : (10 : Int) ^ 12 ≤ c
  · have f12 := fdivD_ok (i := c) (show (0 : Int) < 10 ^ 12 by decide) (by decide)
    have md := modD_ok (i := k) (show (0 : Int) < 61 by decide)
    have ra : rangeA [.int (k % 61)] = some (rangeD 0 (k % 61)) := rangeA_ok (by omega) (by omega)
    obtain ⟨c', s2', e⟩ := mix_loop k .no (rangeD 0 (k % 61)) (c / 10 ^ 12 - 1) .no
    have md2 := modD_ok (i := c') (show (0 : Int) < 2147483648 by decide)
    refine ⟨c' % 2147483648, by omega, ?_⟩
    simp only [g_l_mix, F_l_mix, s_denF, s_startR, List.map_cons, List.map_nil, List.length_cons, List.length_nil, Nat.reduceAdd, Nat.reduceSub, List.replicate, List.cons_append, List.nil_append, s_seqF, s_ifS, s_blF, s_bind2, s_vF, s_cF, List.getElem?_cons_zero, List.getElem?_cons_succ, Option.bind_some, p12, s_ge, hc, decide_true, if_true, s_asgF, f12, s_sub, List.set_cons_zero, List.set_cons_succ, s_forF, s_rng1, s_consA, s_nilA, md, ra]
    rw [e]
    simp only [Option.bind_some, s_retF, s_bind2, s_vF, s_cF, List.getElem?_cons_zero, md2, s_outR]
  · have m1 : mulD (.int 8) (.int k) = _ := mulD_ok (mulOk_l (by decide) (by decide))
    have m2 : mulD (.int (8 * k)) (.int k) = _ := mulD_ok (mulOk_l (by omega) (by omega))
    have m3 : mulD (.int (c % 2147483629 + k + 1)) (.int (8 * k * k + 48271)) = _ := mulD_ok (mulOk_l (by omega) (by omega))
    have m4 : ∀ x : Int, mulD (.int (x % 2147483647)) (.int (x % 2147483647)) = _ := fun x => mulD_ok (mulOk_l (by omega) (by omega))
    have m5 : ∀ x y : Int, mulD (.int (x % 2147483587)) (.int y) = _ := fun x y => mulD_ok (mulOk_l (by omega) (by omega))
    refine ⟨_, ?_, by simp only [g_l_mix, F_l_mix, s_denF, s_startR, List.map_cons, List.map_nil, List.length_cons, List.length_nil, Nat.reduceAdd, Nat.reduceSub, List.replicate, List.cons_append, List.nil_append, s_seqF, s_ifS, s_blF, s_bind2, s_vF, s_cF, List.getElem?_cons_zero, List.getElem?_cons_succ, Option.bind_some, p12, s_ge, hc, decide_false, Bool.false_eq_true, if_false, s_nxF, s_asgF, modD_ok (show (0 : Int) < 2147483629 by decide), s_add, m1, m2, m3, modD_ok (show (0 : Int) < 2147483647 by decide), List.set_cons_succ, List.set_cons_zero, s_retF, m4, modD_ok (show (0 : Int) < 2147483587 by decide), m5, modD_ok (show (0 : Int) < 2147483579 by decide), s_outR]; rfl⟩
    exact Int.emod_nonneg _ (by decide)
theorem mix_val (c : Int) (k : Nat) (hk : k ≤ 4) : ∃ z : Int, 0 ≤ z ∧ g_l_mix [.int c, .int k] = some (.int z) := mix_valI c k (by omega) (by omega)
def KvOk (n : Nat) (kvs : List (List Key × D)) : Prop := ∀ p ∈ kvs, ∃ a b m : Int, p = ([.inl a, .inl b], .int m) ∧ 0 ≤ a ∧ a < b ∧ b < n ∧ (m = 0 ∨ (2 ≤ m ∧ m ≤ 6))
def TsOk (n : Nat) (ts : List T3) : Prop := ∀ t ∈ ts, (t.2.2 = 0 ∨ (3 ≤ t.2.2 ∧ t.2.2 ≤ 6)) ∧ 0 ≤ t.1 ∧ t.1 < t.2.1 ∧ t.2.1 < n
theorem KvOk.put {n : Nat} {kvs : List (List Key × D)} (h : KvOk n kvs) {a b m : Int} (h1 : 0 ≤ a) (h2 : a < b) (h3 : b < n) (h4 : m = 0 ∨ (2 ≤ m ∧ m ≤ 6)) : KvOk n (putD kvs [.inl a, .inl b] (.int m)) ∧ (putD kvs [.inl a, .inl b] (.int m)).length ≤ kvs.length + 1 := by
  unfold putD
  split
  · refine ⟨fun p hp => ?_, by simp⟩
    obtain ⟨q, hq, rfl⟩ := List.mem_map.mp hp
    split
    · rename_i e
      exact ⟨a, b, m, by rw [e], h1, h2, h3, h4⟩
    · exact h q hq
  · refine ⟨fun p hp => ?_, by simp⟩
    rcases List.mem_append.mp hp with hp | hp
    · exact h p hp
    · exact ⟨a, b, m, by simpa using hp, h1, h2, h3, h4⟩
theorem put_nd {kvs : List (List Key × D)} {k : List Key} {v : D} (h : (kvs.map (·.1)).Nodup) : ((putD kvs k v).map (·.1)).Nodup := by
  unfold putD
  split
  · have : (kvs.map fun kv => if kv.1 = k then (kv.1, v) else kv).map (·.1) = kvs.map (·.1) := by
      rw [List.map_map]
      apply List.map_congr_left
      intro a _
      simp only [Function.comp]
      split <;> rfl
    rw [this]; exact h
  · rename_i hn
    rw [List.map_append, List.nodup_append]
    refine ⟨h, by simp, fun a ha b hb => ?_⟩
    have eb : b = k := by simpa using hb
    subst eb
    rintro rfl
    obtain ⟨q, hq, e⟩ := List.mem_map.mp ha
    exact hn (List.any_eq_true.mpr ⟨q, hq, by simp [e]⟩)
noncomputable def hoB : FS := (seqF (asgF 6 (appF g_l_mix (consA (vF 5) (consA (cF (.int 2)) nilA)))) (seqF (asgF 7 (bind2 modD (vF 6) (vF 3))) (seqF (asgF 8 (bind2 modD (bind2 fdivD (vF 6) (cF (.int 8))) (vF 3))) (ifS (blF (bind2 neF (vF 7) (vF 8))) (dputF 4 (consA (appF minD (consA (vF 7) (consA (vF 8) nilA))) (consA (appF maxD (consA (vF 7) (consA (vF 8) nilA))) nilA)) (bind2 ixD (mapLst (lstF (consA (cF (.int 3)) (consA (cF (.int 4)) (consA (cF (.int 5)) (consA (cF (.int 6)) (consA (cF (.int 0)) (consA (cF (.int 3)) (consA (cF (.int 2)) (consA (cF (.int 2)) nilA)))))))))) (bind2 modD (bind2 fdivD (vF 6) (cF (.int 64))) (cF (.int 8))))) nxF))))
theorem pick8 {x : Int} (h1 : 0 ≤ x) (h2 : x < 8) : ∃ m : Int, (m = 0 ∨ (2 ≤ m ∧ m ≤ 6)) ∧ ixD (.lst [.int 3, .int 4, .int 5, .int 6, .int 0, .int 3, .int 2, .int 2]) (.int x) = some (.int m) := by
  have : x = 0 ∨ x = 1 ∨ x = 2 ∨ x = 3 ∨ x = 4 ∨ x = 5 ∨ x = 6 ∨ x = 7 := by omega
  rcases this with e | e | e | e | e | e | e | e <;> subst e
  · exact ⟨3, by omega, by simp [ixD, atI, ixN]⟩
  · exact ⟨4, by omega, by simp [ixD, atI, ixN]⟩
  · exact ⟨5, by omega, by simp [ixD, atI, ixN]⟩
  · exact ⟨6, by omega, by simp [ixD, atI, ixN]⟩
  · exact ⟨0, by omega, by simp [ixD, atI, ixN]⟩
  · exact ⟨3, by omega, by simp [ixD, atI, ixN]⟩
  · exact ⟨2, by omega, by simp [ixD, atI, ixN]⟩
  · exact ⟨2, by omega, by simp [ixD, atI, ixN]⟩
theorem ho_loop {n : Nat} (hn : 1 ≤ n) (a0 a1 a2 a9 a10 a11 : FL.Slot) : ∀ (l : List Int) (kvs : List (List Key × D)) (s5 s6 s7 s8 : FL.Slot), KvOk n kvs → (kvs.map (·.1)).Nodup → kvs.length + l.length ≤ 63 → ∃ kvs' s5' s6' s7' s8', KvOk n kvs' ∧ (kvs'.map (·.1)).Nodup ∧ kvs'.length ≤ 63 ∧
    loopF (nameG 5) hoB (l.map D.int) [a0, a1, a2, .fr (.int n), .oT kvs, s5, s6, s7, s8, a9, a10, a11] = some (.nx [a0, a1, a2, .fr (.int n), .oT kvs', s5', s6', s7', s8', a9, a10, a11])
  | [], kvs, s5, s6, s7, s8, hk, hnd, hlen => ⟨kvs, s5, s6, s7, s8, hk, hnd, by simp at hlen; omega, rfl⟩
  | c :: l, kvs, s5, s6, s7, s8, hk, hnd, hlen => by
    rw [List.length_cons] at hlen
    obtain ⟨z, hz, mv⟩ := mix_val c 2 (by omega)
    have mv' : g_l_mix [.int c, .int 2] = some (.int z) := mv
    have hnp : (0 : Int) < n := by omega
    have d1 := modD_ok (i := z) hnp
    have f8 := fdivD_ok (i := z) (show (0 : Int) < 8 by decide) (by decide)
    have d2 := modD_ok (i := z / 8) hnp
    have f64 := fdivD_ok (i := z) (show (0 : Int) < 64 by decide) (by decide)
    have d3 := modD_ok (i := z / 64) (show (0 : Int) < 8 by decide)
    have z8 : 0 + 1 + 1 + 1 + 1 + 1 + 1 + 1 + 1 ≤ sizeLine := szl (by decide)
    have z8' : 8 ≤ sizeLine := szl (by decide)
    have z2 : 0 + 1 + 1 ≤ sizeLine := szl (by decide)
    have z2' : 2 ≤ sizeLine := szl (by decide)
    obtain ⟨m, hm, px⟩ := pick8 (x := z / 64 % 8) (by omega) (by omega)
    have b1 : 0 ≤ z % n := Int.emod_nonneg _ (by omega)
    have b2 : z % n < n := Int.emod_lt_of_pos _ hnp
    have b3 : 0 ≤ z / 8 % n := Int.emod_nonneg _ (by omega)
    have b4 : z / 8 % n < n := Int.emod_lt_of_pos _ hnp
    have hkz : kvs.length < sizeLine := small1000 (by omega)
    rw [List.map_cons]
    by_cases c1 : z % n = z / 8 % n
    · obtain ⟨kvs', t5, t6, t7, t8, h1, h1n, h2, e⟩ := ho_loop hn a0 a1 a2 a9 a10 a11 l kvs (.fr (.int c)) (.fr (.int z)) (.fr (.int (z % n))) (.fr (.int (z / 8 % n))) hk hnd (by omega)
      refine ⟨kvs', t5, t6, t7, t8, h1, h1n, h2, ?_⟩
      have ne : neF (.int (z % n)) (.int (z / 8 % n)) = some (.bl false) := by rw [neF_int, decide_eq_true c1]; rfl
      unfold loopF
      simp only [hoB, s_nameG, Option.bind_some, List.set_cons_succ, List.set_cons_zero, s_seqF, s_asgF, s_appF, s_consA, s_nilA, s_vF, s_cF, List.getElem?_cons_succ, List.getElem?_cons_zero, mv', s_bind2, d1, f8, d2, s_ifS, s_blF, ne, Bool.false_eq_true, if_false, s_nxF]
      unfold hoB at e
      exact e
    · have ne : neF (.int (z % n)) (.int (z / 8 % n)) = some (.bl true) := by rw [neF_int, decide_eq_false c1]; rfl
      obtain ⟨a, b, h1, h2, h3, ea, eb⟩ : ∃ a b : Int, 0 ≤ a ∧ a < b ∧ b < n ∧ minD [.int (z % n), .int (z / 8 % n)] = some (.int a) ∧ maxD [.int (z % n), .int (z / 8 % n)] = some (.int b) := by
        refine ⟨_, _, ?_, ?_, ?_, s_min, s_max⟩
        · split <;> omega
        · split <;> split <;> omega
        · split <;> omega
      obtain ⟨p1, p2⟩ := hk.put h1 h2 h3 hm
      obtain ⟨kvs', t5, t6, t7, t8, g1, g1n, g2, e⟩ := ho_loop hn a0 a1 a2 a9 a10 a11 l _ (.fr (.int c)) (.fr (.int z)) (.fr (.int (z % n))) (.fr (.int (z / 8 % n))) p1 (put_nd hnd) (by omega)
      refine ⟨kvs', t5, t6, t7, t8, g1, g1n, g2, ?_⟩
      have ko : keysOf [.int a, .int b] = some [.inl a, .inl b] := rfl
      have cnd : kvs.length < sizeLine ∧ 0 + 1 + 1 ≤ sizeLine := ⟨hkz, z2⟩
      unfold loopF
      simp only [hoB, s_nameG, Option.bind_some, List.set_cons_succ, List.set_cons_zero, s_seqF, s_asgF, s_appF, s_consA, s_nilA, s_vF, s_cF, List.getElem?_cons_succ, List.getElem?_cons_zero, mv', s_bind2, d1, f8, d2, s_ifS, s_blF, ne, if_true, s_dputF, s_mapLst, s_lstF, List.length_cons, List.length_nil, if_pos z8, if_pos z8', Option.map_some, f64, d3, px, ea, eb, ko, if_pos cnd]
      unfold hoB at e
      exact e
noncomputable def hoT : FS := (ifS (blF (bind2 neF (vF 11) (cF (.int 2)))) (appendF 9 (tupF (consA (bind2 ixD (vF 10) (cF (.int 0))) (consA (bind2 ixD (vF 10) (cF (.int 1))) (consA (vF 11) nilA))))) nxF)
theorem ht_loop {n : Nat} (a0 a1 a2 a3 a4 a5 a6 a7 a8 : FL.Slot) : ∀ (kvs : List (List Key × D)) (ts : List T3) (s10 s11 : FL.Slot), KvOk n kvs → TsOk n ts → (ts.map kyT ++ kvs.map (·.1)).Nodup → ts.length + kvs.length ≤ 63 → ∃ ts' s10' s11', TsOk n ts' ∧ (ts'.map kyT).Nodup ∧ ts'.length ≤ 63 ∧
    loopF (tupG 2 (consG (nameG 10) (consG (nameG 11) nilG))) hoT (itemsD kvs) [a0, a1, a2, a3, a4, a5, a6, a7, a8, .ol (ts.map tD), s10, s11] = some (.nx [a0, a1, a2, a3, a4, a5, a6, a7, a8, .ol (ts'.map tD), s10', s11'])
  | [], ts, s10, s11, hk, ht, hnd, hlen => ⟨ts, s10, s11, ht, by simpa using hnd, by simp at hlen; omega, rfl⟩
  | p :: kvs, ts, s10, s11, hk, ht, hnd, hlen => by
    rw [List.length_cons] at hlen
    obtain ⟨a, b, m, rfl, h1, h2, h3, h4⟩ := hk p List.mem_cons_self
    have hk' : KvOk n kvs := fun q hq => hk q (List.mem_cons_of_mem _ hq)
    have ei : itemsD (([.inl a, .inl b], .int m) :: kvs) = .tup [.tup [.int a, .int b], .int m] :: itemsD kvs := rfl
    have z : (ts.map tD).length < sizeLine := small1000 (by simp; omega)
    have z3 : 0 + 1 + 1 + 1 ≤ sizeLine := szl (by decide)
    have z3' : 3 ≤ sizeLine := szl (by decide)
    have i0 : ixD (.tup [.int a, .int b]) (.int 0) = some (.int a) := ix0
    have i1 : ixD (.tup [.int a, .int b]) (.int 1) = some (.int b) := ix1
    rw [ei]
    by_cases c : m = 2
    · obtain ⟨ts', t10, t11, g1, g1n, g2, e⟩ := ht_loop (n := n) a0 a1 a2 a3 a4 a5 a6 a7 a8 kvs ts (.fr (.tup [.int a, .int b])) (.fr (.int m)) hk' ht (hnd.sublist (List.Sublist.append_left (by simp) _)) (by omega)
      refine ⟨ts', t10, t11, g1, g1n, g2, ?_⟩
      have ne : neF (.int m) (.int 2) = some (.bl false) := by rw [neF_int, decide_eq_true c]; rfl
      unfold loopF
      simp only [hoT, s_tupG, s_consG, s_nameG, s_nilG, List.length_cons, List.length_nil, Nat.reduceAdd, if_true, List.set_cons_succ, List.set_cons_zero, Option.bind_some, s_ifS, s_blF, s_bind2, s_vF, s_cF, List.getElem?_cons_succ, List.getElem?_cons_zero, ne, Bool.false_eq_true, if_false, s_nxF]
      unfold hoT at e
      exact e
    · have ht' : TsOk n (ts ++ [(a, b, m)]) := fun t hq => by
        rcases List.mem_append.mp hq with q | q
        · exact ht t q
        · have e : t = (a, b, m) := by simpa using q
          subst e
          exact ⟨by show m = 0 ∨ (3 ≤ m ∧ m ≤ 6); omega, h1, h2, h3⟩
      obtain ⟨ts', t10, t11, g1, g1n, g2, e⟩ := ht_loop (n := n) a0 a1 a2 a3 a4 a5 a6 a7 a8 kvs (ts ++ [(a, b, m)]) (.fr (.tup [.int a, .int b])) (.fr (.int m)) hk' ht' (by rw [List.map_append, List.append_assoc]; exact hnd) (by rw [List.length_append, List.length_singleton]; omega)
      refine ⟨ts', t10, t11, g1, g1n, g2, ?_⟩
      have ne : neF (.int m) (.int 2) = some (.bl true) := by rw [neF_int, decide_eq_false c]; rfl
      have em : (ts ++ [(a, b, m)]).map tD = ts.map tD ++ [.tup [.int a, .int b, .int m]] := by simp [tD]
      rw [em] at e
      unfold loopF
      simp only [hoT, s_tupG, s_consG, s_nameG, s_nilG, List.length_cons, List.length_nil, Nat.reduceAdd, if_true, List.set_cons_succ, List.set_cons_zero, Option.bind_some, s_ifS, s_blF, s_bind2, s_vF, s_cF, List.getElem?_cons_succ, List.getElem?_cons_zero, ne, s_appendF, s_tupF, s_consA, s_nilA, i0, i1, if_pos z3, if_pos z3', if_pos z]
      unfold hoT at e
      exact e
theorem house_val (ns : List Int) (hl : ns.length ≤ 63) : ∃ (n : Nat) (ts : List T3), 1 ≤ n ∧ n ≤ 6 ∧ TsOk n ts ∧ (ts.map kyT).Nodup ∧ ts.length ≤ 63 ∧ g_l_house [.lst (ns.map D.int), .int 0] = some (houseD n ts) := by
  obtain ⟨z0, av⟩ := at0_val ns hl
  obtain ⟨z, hz, mv⟩ := mix_val z0 1 (by omega)
  have mv' : g_l_mix [.int z0, .int 1] = some (.int z) := mv
  have d6 := modD_ok (i := z) (show (0 : Int) < 6 by decide)
  obtain ⟨n, en, hn1, hn6⟩ : ∃ n : Nat, 1 + z % 6 = (n : Int) ∧ 1 ≤ n ∧ n ≤ 6 := ⟨(1 + z % 6).toNat, by omega, by omega, by omega⟩
  have z0' : 0 ≤ sizeLine := Nat.zero_le _
  have z2 : 0 + 1 + 1 ≤ sizeLine := szl (by decide)
  have z2' : 2 ≤ sizeLine := szl (by decide)
  obtain ⟨l, ll, el⟩ : ∃ l : List Int, l.length ≤ 63 ∧ cutL (ns.map D.int) (some 1) (some 64) = l.map D.int := by
    refine ⟨(ns.drop 1).take 63, by simp; omega, ?_⟩
    have := cut_mid (ns.map D.int) 1 64 (by decide)
    rw [← List.map_drop, ← List.map_take] at this
    exact this
  obtain ⟨kvs, s5, s6, s7, s8, k1, k1n, k2, e1⟩ := ho_loop hn1 (.fr (.lst (ns.map D.int))) (.fr (.int 0)) (.fr (.int z)) .no .no .no l [] .no .no .no .no (fun p hp => by cases hp) (by simp) (by simp; omega)
  obtain ⟨ts, s10, s11, t1, t1n, t2, e2⟩ := ht_loop (n := n) (.fr (.lst (ns.map D.int))) (.fr (.int 0)) (.fr (.int z)) (.fr (.int n)) .no s5 s6 s7 s8 kvs [] .no .no k1 (fun t ht => by cases ht) (by simpa using k1n) (by simp; omega)
  refine ⟨n, ts, hn1, hn6, t1, t1n, t2, ?_⟩
  have sqL : ∀ l : List D, seqOfX (.lst l) = some l := fun _ => rfl
  unfold hoB at e1
  unfold hoT at e2
  unfold g_l_house F_l_house
  simp only [s_denF, s_startR, List.map_cons, List.map_nil, List.length_cons, List.length_nil, Nat.reduceAdd, Nat.reduceSub, List.replicate, List.cons_append, List.nil_append, s_seqF, s_asgF, s_appF, s_consA, s_vF, s_nilA, s_cF, List.getElem?_cons_succ, List.getElem?_cons_zero, Option.bind_some, av, mv', s_bind2, d6, s_add, en, List.set_cons_succ, List.set_cons_zero, s_dnewF, s_forF, s_seqX, s_sliceX, s_exP, Int.zero_add, el, sqL]
  rw [e1]
  simp only [Option.bind_some, s_seqF, s_asgN, s_lstF, s_nilA, List.length_nil, if_pos z0', List.set_cons_succ, List.set_cons_zero, s_forDF, List.getElem?_cons_succ, List.getElem?_cons_zero]
  rw [List.map_nil] at e2
  rw [e2]
  simp only [Option.bind_some, s_frzF, s_frz, s_retF, s_tupF, s_consA, s_nilA, s_vF, List.getElem?_cons_succ, List.getElem?_cons_zero, List.set_cons_succ, List.set_cons_zero, List.length_cons, List.length_nil, if_pos z2, if_pos z2', s_outR]
  rfl
theorem litB : cp " " = [32] := by rw [show cp " " = _ from PyProof.Rows.signs_ofString " "]; rfl
theorem lit_B : (" " : Str) = ⟨#[32]⟩ := cp_ext litB
def wlGo : List Nat → List Nat → List (List Nat)
  | last, [] => [last]
  | last, c :: cs => if c = 32 then last :: wlGo [] cs else wlGo (last ++ [c]) cs
def joinB : List (List Nat) → List Nat
  | [] => []
  | [x] => x
  | x :: y :: r => x ++ 32 :: joinB (y :: r)
theorem wl_part : ∀ (p last rest : List Nat), 32 ∉ p → wlGo last (p ++ rest) = wlGo (last ++ p) rest
  | [], last, rest, _ => by simp
  | c :: p, last, rest, h => by
    have hc : c ≠ 32 := fun e => h (by simp [e])
    rw [List.cons_append, wlGo, if_neg hc, wl_part p _ rest (fun m => h (List.mem_cons_of_mem _ m))]
    simp
theorem wl_join : ∀ (ps : List (List Nat)), ps ≠ [] → (∀ p ∈ ps, 32 ∉ p) → wlGo [] (joinB ps) = ps
  | [], h, _ => absurd rfl h
  | [x], _, hf => by
    have := wl_part x [] [] (hf x (by simp))
    rw [List.append_nil] at this
    show wlGo [] x = [x]
    rw [this]; rfl
  | x :: y :: r, _, hf => by
    show wlGo [] (x ++ 32 :: joinB (y :: r)) = _
    rw [wl_part x [] _ (hf x (by simp)), wlGo, if_pos rfl, wl_join (y :: r) (by simp) (fun p hp => hf p (List.mem_cons_of_mem _ hp))]
    simp
theorem cp_join : ∀ ts : List Str, cp (Str.join " " ts) = joinB (ts.map cp)
  | [] => rfl
  | [x] => rfl
  | x :: y :: r => by
    show cp (x ++ " " ++ Str.join " " (y :: r)) = _
    rw [cp_app, cp_app, cp_join (y :: r), litB]
    simp [joinB]
def wds (z : Str) : List Str := Txt.split z " "
theorem wds_ne (z : Str) : wds z ≠ [] := fun e => by
  have := PyProof.Rows.split_pos z " "
  rw [show Txt.split z " " = [] from e] at this
  exact absurd this (by simp)
theorem wds_free (z : Str) : ∀ p ∈ wds z, 32 ∉ cp p := by
  unfold wds
  rw [lit_B]
  exact StrLaws.split_free z 32
theorem wds_wl (z : Str) : (wds z).map cp = wlGo [] (cp z) := by
  have h1 : Str.join " " (wds z) = z := StrLaws.join_split z " "
  have e : cp z = joinB ((wds z).map cp) := by rw [← cp_join, h1]
  rw [e, wl_join _ (fun x => wds_ne z (List.map_eq_nil_iff.mp x)) (fun p hp => by
    obtain ⟨t, ht, rfl⟩ := List.mem_map.mp hp
    exact wds_free z t ht)]
theorem sp1 : 1 ≤ (" " : Str).length := by rw [cp_len, litB]; decide
theorem wds_weight (z : Str) : ((wds z).map fun t => (cp t).length).sum + (wds z).length ≤ (cp z).length + 1 := by
  have := PyProof.Rows.split_weight z " " sp1
  rw [cp_len] at this
  rw [show (fun t : Str => (cp t).length) = fun t => t.length from funext fun t => (cp_len t).symm]
  exact this
theorem wds_len (z : Str) : (wds z).length ≤ (cp z).length + 1 := by have := wds_weight z; omega
theorem sum_mem {α : Type} (φ : α → Nat) : ∀ {l : List α} {x : α}, x ∈ l → φ x ≤ (l.map φ).sum
  | a :: l, x, h => by
    rw [List.map_cons, List.sum_cons]
    rcases List.mem_cons.mp h with rfl | h
    · omega
    · have := sum_mem φ h; omega
theorem wds_each {z : Str} {t : Str} (h : t ∈ wds z) : (cp t).length ≤ (cp z).length + 1 := by
  have := wds_weight z
  have := sum_mem (fun t => (cp t).length) h
  omega
theorem split_ok {z : Str} (hz : (cp z).length ≤ 300) : SplitOk z " " := by
  have hl := wds_len z
  refine ⟨by rw [cp_len, litB]; rfl, by rw [cp_len]; exact sz1 (by omega), ?_, sz1 (by show (wds z).length ≤ 900; omega)⟩
  rw [PyProof.Rows.len_partsBetween]
  exact sz1 (by have := StrLaws.occ_length_le z " " 0 z.length (z.length + 1); have := cp_len z; omega)
open GH
theorem litS : cp "123456" = [49, 50, 51, 52, 53, 54] := by rw [show cp "123456" = _ from PyProof.Rows.signs_ofString "123456"]; rfl
theorem litT : cp "3456" = [51, 52, 53, 54] := by rw [show cp "3456" = _ from PyProof.Rows.signs_ofString "3456"]; rfl
theorem litN : cp "*" = [42] := by rw [show cp "*" = _ from PyProof.Rows.signs_ofString "*"]; rfl
theorem litTN : cp "3456*" = [51, 52, 53, 54, 42] := by rw [show cp "3456*" = _ from PyProof.Rows.signs_ofString "3456*"]; rfl
def isF (c : Nat) : Bool := decide ((51 ≤ c ∧ c ≤ 54) ∨ c = 42)
theorem isF_iff {c : Nat} : isF c = true ↔ (51 ≤ c ∧ c ≤ 54) ∨ c = 42 := by unfold isF; exact decide_eq_true_iff
def mF (c : Nat) : Int := if c = 42 then 0 else (c : Int) - 48
def vW : List Nat → Bool
  | [a, b, c] => isL a && (isL b && isF c)
  | _ => false
def trp : List Nat → T3
  | [a, b, c] => ((a : Int) - 97, (b : Int) - 97, mF c)
  | _ => (0, 0, 0)
theorem vW_ex {cs : List Nat} (h : vW cs = true) : ∃ a b c, cs = [a, b, c] ∧ isL a = true ∧ isL b = true ∧ isF c = true := by
  match cs, h with
  | [a, b, c], h =>
    have h : (isL a && (isL b && isF c)) = true := h
    rw [Bool.and_eq_true, Bool.and_eq_true] at h
    exact ⟨a, b, c, rfl, h.1, h.2.1, h.2.2⟩
theorem ixS {z : Str} {k c : Nat} (h : (cp z)[k]? = some c) (hz : (cp z).length ≤ 900) : ixD (.str z) (.int (k : Int)) = some (.str ⟨#[c]⟩) := by
  show (if z.length ≤ sizeLine then (atI (cp z) (k : Int)).map fun c => D.str ⟨#[c]⟩ else none) = _
  rw [if_pos (by rw [cp_len]; exact sz1 (by omega)), atI_nat h]
  rfl
theorem ix3 {z : Str} {a b c : Nat} (h : cp z = [a, b, c]) : ixD (.str z) (.int 0) = some (.str ⟨#[a]⟩) ∧ ixD (.str z) (.int 1) = some (.str ⟨#[b]⟩) ∧ ixD (.str z) (.int 2) = some (.str ⟨#[c]⟩) := by
  have hz : (cp z).length ≤ 900 := by rw [h]; simp
  exact ⟨ixS (k := 0) (by rw [h]; rfl) hz, ixS (k := 1) (by rw [h]; rfl) hz, ixS (k := 2) (by rw [h]; rfl) hz⟩
theorem tn_app : ("3456" : Str) ++ "*" = "3456*" := cp_ext (by rw [cp_app, litT, litN, litTN]; rfl)
theorem add_tn : addX (.str "3456") (.str "*") = some (.str "3456*") := by rw [add_str (by rw [litT, litN]; decide), tn_app]
theorem memTN {c : Nat} : decide (c ∈ cp "3456*") = isF c := by
  unfold isF
  rw [litTN]
  apply decide_eq_decide.mpr
  simp only [List.mem_cons, List.not_mem_nil, or_false]
  omega
theorem len3 {cs : List Nat} (h : ¬ cs.length = 3) : vW cs = false := by
  match cs, h with
  | [], _ => rfl
  | [_], _ => rfl
  | [_, _], _ => rfl
  | [_, _, _], h => exact absurd rfl h
  | _ :: _ :: _ :: _ :: _, _ => rfl
theorem ex3 {cs : List Nat} (h : cs.length = 3) : ∃ a b c, cs = [a, b, c] := by
  match cs, h with
  | [a, b, c], _ => exact ⟨a, b, c, rfl⟩
theorem itt_val {t : Str} (ht : (cp t).length ≤ 400) : g_is_turn_text [.str t] = some (.bl (vW (cp t))) := by
  have le := len_str (z := t) (by omega)
  show outD (F_is_turn_text [.fr (.str t)]) = _
  unfold F_is_turn_text
  have tt : blF (bind2 neF (appF lenD (consA (vF 0) nilA)) (cF (.int 3))) [.fr (.str t)] = some (!decide ((cp t).length = 3)) := by
    simp only [s_blF, s_bind2, s_appF, s_consA, s_nilA, s_vF, s_cF, List.getElem?_cons_zero, Option.bind_some, le, s_nei]
    congr 2
    apply decide_eq_decide.mpr
    omega
  by_cases h : (cp t).length = 3
  · obtain ⟨a, b, c, e⟩ := ex3 h
    obtain ⟨i0, i1, i2⟩ := ix3 e
    rw [seq_nx (ρ' := [.fr (.str t)]) (by rw [ifS_f (by rw [tt, decide_eq_true h]; rfl)]; rfl), e]
    simp only [s_retF, s_andV, s_bind2, s_vF, s_cF, List.getElem?_cons_zero, Option.bind_some, i0, i1, i2, ins_p, mem6, add_tn, memTN, vW]
    cases isL a <;> cases isL b <;> rfl
  · rw [seq_rt (d := .bl false) (by rw [ifS_t (by rw [tt, decide_eq_false h]; rfl)]; rfl), len3 h]
    rfl
theorem int_fig {c : Nat} (h1 : 48 ≤ c) (h2 : c ≤ 57) : intX [.str ⟨#[c]⟩] = some (.int ((c : Int) - 48)) := by
  have e : cp ⟨#[c]⟩ = dg (c - 48) := by rw [dg_lt (by omega), cp_one]; congr 1; omega
  rw [int_dg _ (c - 48) e (by rw [← e, cp_one]; simp)]
  congr 2
  omega
theorem rt_val {t : Str} (h : vW (cp t) = true) : g_read_turn [.str t] = some (tD (trp (cp t))) := by
  obtain ⟨a, b, c, e, ha, hb, hc⟩ := vW_ex h
  obtain ⟨i0, i1, i2⟩ := ix3 e
  show outD (F_read_turn [.fr (.str t), .no]) = _
  unfold F_read_turn
  have m : ifF (blF (bind2 eqF (bind2 ixD (vF 0) (cF (.int 2))) (cF (.str "*")))) (cF (.int 0)) (appF intX (consA (bind2 ixD (vF 0) (cF (.int 2))) nilA)) [.fr (.str t), .no] = some (.int (mF c)) := by
    simp only [s_ifF, s_blF, s_bind2, s_appF, s_consA, s_nilA, s_vF, s_cF, List.getElem?_cons_zero, Option.bind_some, i2, eqs, cp_one, litN]
    unfold mF
    by_cases q : c = 42
    · simp [q]
    · have hc' := isF_iff.mp hc
      simp only [List.cons.injEq, and_true, q, decide_false, Bool.false_eq_true, if_false]
      exact int_fig (by omega) (by omega)
  rw [seq_nx (ρ' := [.fr (.str t), .fr (.int (mF c))]) (by rw [s_asgF, m]; rfl), e]
  simp only [s_retF, s_tupF, s_consA, s_nilA, s_bind2, s_vF, s_cF, List.getElem?_cons_zero, List.getElem?_cons_succ, Option.bind_some, i0, i1, idx6 ha, idx6 hb, List.length_cons, List.length_nil, Nat.reduceAdd, show (3 : Nat) ≤ sizeLine from sz1 (by decide), if_true, s_outR]
  rfl
def hd1 : List Nat → Bool
  | [c] => decide (49 ≤ c ∧ c ≤ 54)
  | _ => false
def hdN : List Nat → Int
  | c :: _ => (c : Int) - 48
  | [] => 0
theorem memS {c : Nat} : decide (c ∈ cp "123456") = decide (49 ≤ c ∧ c ≤ 54) := by
  rw [litS]
  apply decide_eq_decide.mpr
  simp only [List.mem_cons, List.not_mem_nil, or_false]
  omega
theorem ixL0 {x : D} {l : List D} : ixD (.lst (x :: l)) (.int 0) = some x := by simp [ixD, atI, ixN]
noncomputable def hdT : FT := orT (blF (bind2 neF (appF lenD (consA (bind2 ixD (vF 1) (cF (.int 0))) nilA)) (cF (.int 1)))) (blF (bind2 (inD true) (bind2 ixD (vF 1) (cF (.int 0))) (cF (.str "123456"))))
theorem hdT_val {ρ : Rho} {t0 : Str} {rest : List Str} (e : ρ[1]? = some (.fr (.lst ((t0 :: rest).map D.str)))) (ht : (cp t0).length ≤ 400) : hdT ρ = some (!hd1 (cp t0)) := by
  have v1 : vF 1 ρ = some (.lst (.str t0 :: rest.map D.str)) := by rw [s_vF, e]; rfl
  have le := len_str (z := t0) (by omega)
  have tt : blF (bind2 neF (appF lenD (consA (bind2 ixD (vF 1) (cF (.int 0))) nilA)) (cF (.int 1))) ρ = some (!decide ((cp t0).length = 1)) := by
    simp only [s_blF, s_bind2, s_appF, s_consA, s_nilA, v1, s_cF, Option.bind_some, ixL0, le, s_nei]
    congr 2
    apply decide_eq_decide.mpr
    omega
  unfold hdT
  rw [s_orT, tt, Option.bind_some]
  by_cases h : (cp t0).length = 1
  · obtain ⟨c, ec⟩ : ∃ c, cp t0 = [c] := by
      match hh : cp t0, h with
      | [c], _ => exact ⟨c, rfl⟩
    have et : t0 = ⟨#[c]⟩ := cp_ext ec
    rw [decide_eq_true h, if_neg (by simp), s_blF, s_bind2, s_bind2, v1]
    simp only [s_cF, Option.bind_some, ixL0]
    rw [ec, et, ins_n, memS]
    rfl
  · rw [decide_eq_false h]
    have : hd1 (cp t0) = false := by
      match hh : cp t0, h with
      | [], _ => rfl
      | [_], h => exact absurd rfl h
      | _ :: _ :: _, _ => rfl
    rw [this]; rfl
theorem hd1_ex {cs : List Nat} (h : hd1 cs = true) : ∃ c, cs = [c] ∧ 49 ≤ c ∧ c ≤ 54 := by
  match cs, h with
  | [c], h => exact ⟨c, rfl, of_decide_eq_true h⟩
theorem hdN_val {t0 : Str} (h : hd1 (cp t0) = true) : intX [.str t0] = some (.int (hdN (cp t0))) ∧ 1 ≤ hdN (cp t0) ∧ hdN (cp t0) ≤ 6 := by
  obtain ⟨c, e, h1, h2⟩ := hd1_ex h
  have et : t0 = ⟨#[c]⟩ := cp_ext e
  rw [e]
  refine ⟨?_, ?_, ?_⟩
  · rw [et]; exact int_fig (by omega) (by omega)
  · show 1 ≤ (c : Int) - 48; omega
  · show (c : Int) - 48 ≤ 6; omega
def l3 (t : T3) : List Int := [t.1, t.2.1, t.2.2]
def t3 : List Int → T3
  | [a, b, c] => (a, b, c)
  | _ => (0, 0, 0)
def srt (ts : List T3) : List T3 := (sortT (ts.map l3)).map t3
theorem t3_l3 (ts : List T3) : (ts.map l3).map t3 = ts := by
  rw [List.map_map]
  exact (List.map_congr_left fun _ _ => rfl).trans (List.map_id ts)
theorem srt_perm (ts : List T3) : (srt ts).Perm ts := by
  have := (sortT_perm (ts.map l3)).map t3
  rw [t3_l3] at this
  exact this
theorem srt_D (ts : List T3) : (sortT (ts.map l3)).map iD = (srt ts).map tD := by
  unfold srt
  rw [List.map_map]
  refine List.map_congr_left fun r hr => ?_
  obtain ⟨t, _, rfl⟩ := List.mem_map.mp ((sortT_perm (ts.map l3)).mem_iff.mp hr)
  rfl
theorem map_l3 (ts : List T3) : ts.map tD = (ts.map l3).map iD := by
  rw [List.map_map]
  exact List.map_congr_left fun _ _ => rfl
theorem sort_val {fa : FA} {ρ : Rho} {ts : List T3} (h : fa ρ = some [.lst (ts.map tD)]) (hl : ts.length < 64) : sortTN fa ρ = some ((srt ts).map tD) := by
  unfold sortTN
  rw [h, Option.bind_some]
  show (intRows (ts.map tD)).bind _ = _
  rw [map_l3, intRows_map, Option.bind_some, if_pos ⟨by rw [List.length_map]; exact hl, fun r hr => by
    obtain ⟨t, _, rfl⟩ := List.mem_map.mp hr
    simp [l3]⟩, srt_D]
def hD (n : Int) (ts : List T3) : D := .tup [.int n, .lst (ts.map tD)]
def allV (ws : List Str) : Bool := ws.all fun t => vW (cp t)
def trs (ws : List Str) : List T3 := ws.map fun t => trp (cp t)
theorem allV_cons {t : Str} {ws : List Str} : allV (t :: ws) = (vW (cp t) && allV ws) := rfl
section
variable {z t0 : Str} {rest : List Str}
theorem sl_val {ρ : Rho} (v1 : vF 1 ρ = some (.lst ((t0 :: rest).map D.str))) : seqX (sliceX (vF 1) (exP (cF (.int 1))) noP) ρ = some (rest.map D.str) := by
  have c : cutL ((t0 :: rest).map D.str) (some ((1 : Nat) : Int)) none = rest.map D.str := by rw [cut_from _ 1 (by simp)]; rfl
  simp only [s_seqX, s_sliceX, v1, s_exP, s_cF, s_noP, Option.bind_some]
  exact congrArg some c
end
theorem trs_len {rest : List Str} : (trs rest).length = rest.length := List.length_map ..
theorem rf_loop (a0 a1 a3 : FL.Slot) : ∀ (ws : List Str) (s : FL.Slot), (∀ t ∈ ws, (cp t).length ≤ 400) → allV ws = true → ∃ s', loopF (nameG 2) (ifS (notT (blF (appF g_is_turn_text (consA (vF 2) nilA)))) neverF nxF) (ws.map D.str) [a0, a1, s, a3] = some (.nx [a0, a1, s', a3])
  | [], s, _, _ => ⟨s, rfl⟩
  | t :: ws, s, hl, ha => by
    rw [allV_cons, Bool.and_eq_true] at ha
    obtain ⟨s', e⟩ := rf_loop a0 a1 a3 ws (.fr (.str t)) (fun u hu => hl u (List.mem_cons_of_mem _ hu)) ha.2
    have tt : notT (blF (appF g_is_turn_text (consA (vF 2) nilA))) [a0, a1, .fr (.str t), a3] = some false := by
      simp only [s_notT, s_blF, s_appF, s_consA, s_nilA, s_vF, List.getElem?_cons_zero, List.getElem?_cons_succ, Option.bind_some, itt_val (hl t List.mem_cons_self), ha.1, Bool.not_true]
    have st : ifS (notT (blF (appF g_is_turn_text (consA (vF 2) nilA)))) neverF nxF [a0, a1, .fr (.str t), a3] = some (.nx [a0, a1, .fr (.str t), a3]) := by rw [ifS_f tt]; rfl
    refine ⟨s', ?_⟩
    rw [List.map_cons]
    unfold loopF
    simp only [s_nameG, List.set_cons_succ, List.set_cons_zero, Option.bind_some, st]
    exact e
theorem rd_good {z t0 : Str} {rest : List Str} (hz : (cp z).length ≤ 300) (e : wds z = t0 :: rest) (h0 : hd1 (cp t0) = true) (ha : allV rest = true) (hf : rest.length < 64) (hg : GoodH (hdN (cp t0)) (trs rest)) : g_read_house [.str z] = some (hD (hdN (cp t0)) (srt (trs rest))) := by
  have hw : ∀ t ∈ t0 :: rest, (cp t).length ≤ 400 := fun t ht => by have := wds_each (z := z) (t := t) (by rw [e]; exact ht); omega
  obtain ⟨s, es⟩ := rf_loop (.fr (.str z)) (.fr (.lst ((t0 :: rest).map D.str))) .no rest .no (fun u hu => hw u (List.mem_cons_of_mem _ hu)) ha
  obtain ⟨_, n1, n6⟩ := hdN_val h0
  have ck := g_good (ts := srt (trs rest)) n1 n6 (hg.perm (srt_perm _).symm) (by rw [(srt_perm _).length_eq, trs_len]; omega)
  have hh := hdT_val (ρ := [.fr (.str z), .fr (.lst ((t0 :: rest).map D.str)), .no, .no]) (t0 := t0) (rest := rest) rfl (hw t0 List.mem_cons_self)
  unfold hdT at hh
  have sp : splitA (vF 0) (cF (.str " ")) [.fr (.str z), .no, .no, .no] = some ((t0 :: rest).map D.str) := by
    show (@ite _ (SplitOk z " ") (Classical.propDecidable _) (some ((Txt.split z " ").map D.str)) none) = _
    rw [if_pos (split_ok (by omega)), ← e]; rfl
  have cc : compF 1 [] (seqX (sliceX (vF 1) (exP (cF (.int 1))) noP)) (nameG 0) ttF (appF g_read_turn (consA (vF 0) nilA)) [.fr (.str z), .fr (.lst ((t0 :: rest).map D.str)), s, .no] = some ((trs rest).map tD) := by
    rw [compF_ok (sl_val (t0 := t0) (rest := rest) rfl) (by rw [List.length_map]; exact sz1 (by omega))]
    unfold trs
    rw [List.map_map]
    show compGo _ _ _ (rest.map D.str) [.no] = _
    refine cmapL rest _ fun t ht => ?_
    have hv : vW (cp t) = true := List.all_eq_true.mp ha t ht
    simp only [s_appF, s_consA, s_nilA, s_vF, List.getElem?_cons_zero, Option.bind_some, rt_val hv]
    rfl
  have so : sortTN (consA (mapLst (compF 1 [] (seqX (sliceX (vF 1) (exP (cF (.int 1))) noP)) (nameG 0) ttF (appF g_read_turn (consA (vF 0) nilA)))) nilA) [.fr (.str z), .fr (.lst ((t0 :: rest).map D.str)), s, .no] = some ((srt (trs rest)).map tD) :=
    sort_val (by rw [s_consA, s_mapLst, cc]; rfl) (by unfold trs; rw [List.length_map]; exact hf)
  have iv : appF intX (consA (bind2 ixD (vF 1) (cF (.int 0))) nilA) [.fr (.str z), .fr (.lst ((t0 :: rest).map D.str)), s, .no] = some (.int (hdN (cp t0))) := by
    simp only [s_appF, s_consA, s_nilA, s_bind2, s_vF, s_cF, List.getElem?_cons_zero, List.getElem?_cons_succ, Option.bind_some, List.map_cons, ixL0, (hdN_val h0).1]
  show outD (F_read_house [.fr (.str z), .no, .no, .no]) = _
  unfold F_read_house
  rw [seq_nx (ρ' := [.fr (.str z), .fr (.lst ((t0 :: rest).map D.str)), .no, .no]) (by rw [s_asgF, s_mapLst, sp]; rfl),
    seq_nx (ρ' := [.fr (.str z), .fr (.lst ((t0 :: rest).map D.str)), .no, .no]) (by rw [ifS_f (by rw [hh, h0]; rfl)]; rfl),
    seq_nx (ρ' := [.fr (.str z), .fr (.lst ((t0 :: rest).map D.str)), s, .no]) (by
      rw [s_forF, sl_val (t0 := t0) (rest := rest) rfl, Option.bind_some]
      exact es),
    seq_nx (ρ' := [.fr (.str z), .fr (.lst ((t0 :: rest).map D.str)), s, .fr (hD (hdN (cp t0)) (srt (trs rest)))]) (by
      rw [s_asgF, s_tupF, s_consA, iv, Option.bind_some, s_consA, s_mapLst, so]
      simp only [Option.map_some, s_nilA, Option.bind_some, List.length_cons, List.length_nil, Nat.reduceAdd, show (2 : Nat) ≤ sizeLine from sz1 (by decide), if_true, List.set_cons_succ, List.set_cons_zero]
      rfl),
    seq_nx (ρ' := [.fr (.str z), .fr (.lst ((t0 :: rest).map D.str)), s, .fr (hD (hdN (cp t0)) (srt (trs rest)))]) (by
      rw [s_dropF, s_appF, s_consA]
      simp only [s_nilA, s_vF, List.getElem?_cons_zero, List.getElem?_cons_succ, Option.bind_some]
      show (g_check_house [.tup [.int _, .lst _]]).bind _ = _
      rw [ck]; rfl)]
  rfl
def fig (m : Int) : Nat := if m = 0 then 42 else 48 + m.toNat
def wS (t : T3) : Str := tx [97 + t.1.toNat, 97 + t.2.1.toNat, fig t.2.2]
def OkT (n : Int) (t : T3) : Prop := (t.2.2 = 0 ∨ (3 ≤ t.2.2 ∧ t.2.2 ≤ 6)) ∧ 0 ≤ t.1 ∧ t.1 < t.2.1 ∧ t.2.1 < n
theorem wS_v {n : Int} {t : T3} (hn : n ≤ 6) (h : OkT n t) : vW (cp (wS t)) = true ∧ trp (cp (wS t)) = t := by
  obtain ⟨a, b, m⟩ := t
  obtain ⟨h1, h2, h3, h4⟩ := h
  have h1 : m = 0 ∨ (3 ≤ m ∧ m ≤ 6) := h1
  have h2 : 0 ≤ a := h2
  have h3 : a < b := h3
  have h4 : b < n := h4
  have ff : isF (fig m) = true := isF_iff.mpr (by unfold fig; split <;> omega)
  have mm : mF (fig m) = m := by
    unfold mF fig
    by_cases q : m = 0
    · simp [q]
    · rw [if_neg q, if_neg (by omega)]; omega
  unfold wS
  rw [cp_tx]
  constructor
  · show (isL (97 + a.toNat) && (isL (97 + b.toNat) && isF (fig m))) = true
    rw [isL_iff.mpr (by omega), isL_iff.mpr (by omega), ff]; rfl
  · show (((97 + a.toNat : Nat) : Int) - 97, ((97 + b.toNat : Nat) : Int) - 97, mF (fig m)) = (a, b, m)
    rw [mm]
    congr 1
    · omega
    · congr 1
      omega
theorem wS_free (t : T3) (h : OkT 6 t) : 32 ∉ cp (wS t) := by
  obtain ⟨a, b, m⟩ := t
  have h1 : m = 0 ∨ (3 ≤ m ∧ m ≤ 6) := h.1
  unfold wS
  rw [cp_tx]
  simp only [List.mem_cons, List.not_mem_nil, or_false]
  unfold fig
  split <;> omega
theorem wS_len (t : T3) : (cp (wS t)).length = 3 := by unfold wS; rw [cp_tx]; rfl
theorem str_fig {m : Int} (h : 0 ≤ m) (h6 : m ≤ 9) : strD [.int m] = some (.str (si m)) ∧ cp (si m) = [48 + m.toNat] := by
  constructor
  · show (if m.natAbs.log2 < 1920 then some (D.str (si m)) else none) = _
    have : m.natAbs.log2 ≤ m.natAbs := Nat.log2_le_self _
    rw [if_pos (by omega)]
  · rw [si_nn h, dg_lt (by omega)]
    congr 2
    omega
theorem cat3 {a b c : Nat} {z : Str} (h : cp z = [c]) : addX (.str ⟨#[a]⟩) (.str ⟨#[b]⟩) = some (.str (tx [a, b])) ∧ addX (.str (tx [a, b])) (.str z) = some (.str (tx [a, b, c])) := by
  constructor
  · rw [add_str (by rw [cp_one, cp_one]; simp)]
    exact congrArg (fun x => some (D.str x)) (cp_ext (by rw [cp_app, cp_tx]; rfl))
  · rw [add_str (by rw [cp_tx, h]; simp)]
    exact congrArg (fun x => some (D.str x)) (cp_ext (by rw [cp_app, cp_tx, cp_tx, h]; rfl))
theorem turn_val {t : T3} (h : OkT 6 t) : g_shown_turn [.int t.1, .int t.2.1, .int t.2.2] = some (.str (wS t)) := by
  obtain ⟨a, b, m⟩ := t
  obtain ⟨h1, h2, h3, h4⟩ := h
  have h1 : m = 0 ∨ (3 ≤ m ∧ m ≤ 6) := h1
  have h2 : 0 ≤ a := h2
  have h3 : a < b := h3
  have h4 : b < 6 := h4
  show outD (F_shown_turn [.fr (.int a), .fr (.int b), .fr (.int m), .no]) = _
  unfold F_shown_turn
  obtain ⟨z, ez, cz⟩ : ∃ z : Str, ifF (blF (bind2 eqF (vF 2) (cF (.int 0)))) (cF (.str "*")) (appF strD (consA (vF 2) nilA)) [.fr (.int a), .fr (.int b), .fr (.int m), .no] = some (.str z) ∧ cp z = [fig m] := by
    by_cases q : m = 0
    · refine ⟨"*", ?_, by rw [litN]; simp [fig, q]⟩
      simp only [s_ifF, s_blF, s_bind2, s_vF, s_cF, List.getElem?_cons_zero, List.getElem?_cons_succ, Option.bind_some, s_eqi, q, decide_true, if_true]
    · obtain ⟨e1, e2⟩ := str_fig (m := m) (by omega) (by omega)
      refine ⟨si m, ?_, by rw [e2]; simp [fig, q]⟩
      simp only [s_ifF, s_blF, s_bind2, s_appF, s_consA, s_nilA, s_vF, s_cF, List.getElem?_cons_zero, List.getElem?_cons_succ, Option.bind_some, s_eqi, q, decide_false, Bool.false_eq_true, if_false, e1]
  obtain ⟨c1, c2⟩ := cat3 (a := 97 + a.toNat) (b := 97 + b.toNat) cz
  rw [seq_nx (ρ' := [.fr (.int a), .fr (.int b), .fr (.int m), .fr (.str z)]) (by rw [s_asgF, ez]; rfl)]
  simp only [s_retF, s_bind2, s_vF, s_cF, List.getElem?_cons_zero, List.getElem?_cons_succ, Option.bind_some, ixA h2 (show a < 6 by omega), ixA (show (0 : Int) ≤ b by omega) h4, c1, c2, s_outR]
  rfl
theorem cmap3 {f : FE} {C : List FL.Slot} {φ : T3 → D} : ∀ (ts : List T3) (s s' s'' : FL.Slot), (∀ t ∈ ts, f (.fr (.int t.1) :: .fr (.int t.2.1) :: .fr (.int t.2.2) :: C) = some (φ t)) → compGo (tupG 3 (consG (nameG 0) (consG (nameG 1) (consG (nameG 2) nilG)))) ttF f (ts.map tD) (s :: s' :: s'' :: C) = some (ts.map φ)
  | [], _, _, _, _ => rfl
  | t :: ts, s, s', s'', h => by
    have ih := cmap3 (f := f) (C := C) (φ := φ) ts (.fr (.int t.1)) (.fr (.int t.2.1)) (.fr (.int t.2.2)) (fun y e => h y (List.mem_cons_of_mem _ e))
    have g : (tupG 3 (consG (nameG 0) (consG (nameG 1) (consG (nameG 2) nilG)))) (tD t) (s :: s' :: s'' :: C) = some (.fr (.int t.1) :: .fr (.int t.2.1) :: .fr (.int t.2.2) :: C) := by
      simp only [tD, s_tupG, s_consG, s_nameG, s_nilG, List.length_cons, List.length_nil, Nat.reduceAdd, if_true, List.set_cons_succ, List.set_cons_zero, Option.bind_some]
    rw [List.map_cons]
    unfold compGo
    simp only [g, Option.bind_some, s_ttF, if_true, h t List.mem_cons_self, ih, List.map_cons]
theorem strs_all : ∀ ts : List Str, strsOf (ts.map D.str) = some ts
  | [] => rfl
  | t :: ts => by rw [List.map_cons, strsOf, strs_all ts]; rfl
def wgt (ts : List Str) : Nat := (ts.map fun t => (cp t).length).sum + ts.length
theorem wgt_eq (ts : List Str) : (ts.map (·.length)).sum + ts.length * (" " : Str).length = wgt ts := by
  unfold wgt
  rw [cp_len " ", litB]
  rw [show (fun t : Str => (cp t).length) = fun t => t.length from funext fun t => (cp_len t).symm]
  simp
theorem joinS {ts : List Str} (h : wgt ts ≤ 900) : joinD (.str " ") (.lst (ts.map D.str)) = some (.str (Str.join " " ts)) := by
  show (strsOf (ts.map D.str)).bind _ = _
  rw [strs_all, Option.bind_some]
  have j : JoinOk " " ts = true := by
    unfold JoinOk Builtin.Str.tooLong
    rw [StrLaws.joinTotal, wgt_eq]
    have := sz1 h
    simp
    omega
  rw [if_pos j]
  congr 2
  exact StrLaws.glued_eq_join " " ts
theorem join_len (ts : List Str) : (cp (Str.join " " ts)).length ≤ wgt ts := by
  have := StrLaws.join_length_le " " ts
  rw [wgt_eq, cp_len] at this
  exact this
theorem wds_join {t : Str} {ts : List Str} (h : ∀ p ∈ t :: ts, 32 ∉ cp p) : wds (Str.join " " (t :: ts)) = t :: ts := by
  have e := wds_wl (Str.join " " (t :: ts))
  rw [cp_join, wl_join _ (by simp) (fun p hp => by
    obtain ⟨u, hu, rfl⟩ := List.mem_map.mp hp
    exact h u hu)] at e
  have := congrArg (List.map tx) e
  rw [List.map_map, List.map_map] at this
  have i : ∀ l : List Str, l.map (tx ∘ cp) = l := fun l => (List.map_congr_left fun t _ => tx_cp t).trans (List.map_id l)
  rw [i, i] at this
  exact this
def hS (n : Nat) (us : List T3) : Str := Str.join " " (si n :: us.map wS)
theorem wgt_h (n : Nat) (us : List T3) (hn : n ≤ 6) : wgt (si n :: us.map wS) = 2 + 4 * us.length := by
  have e : cp (si (n : Int)) = [48 + (n : Int).toNat] := (str_fig (m := (n : Int)) (by omega) (by omega)).2
  have s : ∀ l : List T3, ((l.map wS).map fun t => (cp t).length).sum = 3 * l.length := by
    intro l
    induction l with
    | nil => rfl
    | cons t l ih => rw [List.map_cons, List.map_cons, List.sum_cons, ih, wS_len, List.length_cons]; omega
  unfold wgt
  rw [List.map_cons, List.sum_cons, s, e]
  simp only [List.length_cons, List.length_nil, List.length_map]
  omega
theorem read_hS {n : Nat} {us : List T3} (h1 : 1 ≤ n) (h6 : n ≤ 6) (hu : ∀ t ∈ us, OkT n t) (hn : (us.map kyT).Nodup) (hl : us.length ≤ 63) : g_read_house [.str (hS n us)] = some (hD n (srt us)) := by
  have e : cp (si (n : Int)) = [48 + (n : Int).toNat] := (str_fig (m := (n : Int)) (by omega) (by omega)).2
  have ok6 : ∀ t ∈ us, OkT 6 t := fun t ht => by
    obtain ⟨a, b, c, d⟩ := hu t ht
    exact ⟨a, b, c, by omega⟩
  have hw : wds (hS n us) = si n :: us.map wS := wds_join fun p hp => by
    rcases List.mem_cons.mp hp with rfl | hp
    · rw [e]; simp; omega
    · obtain ⟨t, ht, rfl⟩ := List.mem_map.mp hp
      exact wS_free t (ok6 t ht)
  have hz : (cp (hS n us)).length ≤ 300 := by
    have := join_len (si n :: us.map wS)
    rw [wgt_h n us h6] at this
    unfold hS
    omega
  have h0 : hd1 (cp (si (n : Int))) = true := by rw [e]; exact decide_eq_true (by omega)
  have hN : hdN (cp (si (n : Int))) = n := by rw [e]; show ((48 + (n : Int).toNat : Nat) : Int) - 48 = n; omega
  have ha : allV (us.map wS) = true := List.all_eq_true.mpr fun p hp => by
    obtain ⟨t, ht, rfl⟩ := List.mem_map.mp hp
    exact (wS_v (n := 6) (by decide) (ok6 t ht)).1
  have et : trs (us.map wS) = us := by
    unfold trs
    rw [List.map_map]
    exact (List.map_congr_left fun t ht => (wS_v (n := 6) (by decide) (ok6 t ht)).2).trans (List.map_id us)
  have hg : GoodH (hdN (cp (si (n : Int)))) (trs (us.map wS)) := by
    rw [et, hN]
    exact ⟨fun t ht => ⟨(hu t ht).2, (hu t ht).1⟩, hn⟩
  have := rd_good hz hw h0 ha (by rw [List.length_map]; omega) hg
  rw [et, hN] at this
  exact this
theorem srt_same {us vs : List T3} (h : us.Perm vs) : srt us = srt vs := by
  unfold srt sortT
  rw [sortR_same ((h.map l3).map eP)]
def kk (i j : Int) (t : T3) : Bool := decide (t.1 = i ∧ t.2.1 = j)
theorem lit7 : cp "*003456" = [42, 48, 48, 51, 52, 53, 54] := by rw [show cp "*003456" = _ from PyProof.Rows.signs_ofString "*003456"]; rfl
theorem fig7 {m : Int} (h : m = 0 ∨ (3 ≤ m ∧ m ≤ 6)) : ixD (.str "*003456") (.int m) = some (.str ⟨#[fig m]⟩) := by
  have hz : (cp "*003456").length ≤ 900 := by rw [lit7]; simp
  have : m = 0 ∨ m = 3 ∨ m = 4 ∨ m = 5 ∨ m = 6 := by omega
  rcases this with rfl | rfl | rfl | rfl | rfl
  · exact ixS (k := 0) (by rw [lit7]; rfl) hz
  · exact ixS (k := 3) (by rw [lit7]; rfl) hz
  · exact ixS (k := 4) (by rw [lit7]; rfl) hz
  · exact ixS (k := 5) (by rw [lit7]; rfl) hz
  · exact ixS (k := 6) (by rw [lit7]; rfl) hz
noncomputable def wB : FS := (ifS (andT (blF (bind2 eqF (vF 4) (vF 2))) (blF (bind2 eqF (vF 5) (vF 3)))) (appendF 1 (bind2 addX (bind2 addX (bind2 ixD (cF (.str "abcdef")) (vF 2)) (bind2 ixD (cF (.str "abcdef")) (vF 3))) (bind2 ixD (cF (.str "*003456")) (vF 6)))) nxF)
noncomputable def γw : FG := (tupG 3 (consG (nameG 4) (consG (nameG 5) (consG (nameG 6) nilG))))
def sW (t : T3) : D := .str (wS t)
theorem big5 {n : Nat} (h : n ≤ 5000) : n < sizeLine := by rw [PySem.sizeLine_eq]; omega
theorem w_in (a0 : FL.Slot) (i j : Int) : ∀ (us : List T3) (acc : List D) (s4 s5 s6 : FL.Slot), (∀ t ∈ us, OkT 6 t) → acc.length + us.length ≤ 5000 → ∃ s4' s5' s6', loopF γw wB (us.map tD) [a0, .ol acc, .fr (.int i), .fr (.int j), s4, s5, s6] = some (.nx [a0, .ol (acc ++ (us.filter (kk i j)).map sW), .fr (.int i), .fr (.int j), s4', s5', s6'])
  | [], acc, s4, s5, s6, _, _ => ⟨s4, s5, s6, by simp; rfl⟩
  | t :: us, acc, s4, s5, s6, hu, hn => by
    rw [List.length_cons] at hn
    have g : γw (tD t) [a0, .ol acc, .fr (.int i), .fr (.int j), s4, s5, s6] = some [a0, .ol acc, .fr (.int i), .fr (.int j), .fr (.int t.1), .fr (.int t.2.1), .fr (.int t.2.2)] := by
      simp only [γw, tD, s_tupG, s_consG, s_nameG, s_nilG, List.length_cons, List.length_nil, Nat.reduceAdd, if_true, List.set_cons_succ, List.set_cons_zero, Option.bind_some]
    have tt : andT (blF (bind2 eqF (vF 4) (vF 2))) (blF (bind2 eqF (vF 5) (vF 3))) [a0, .ol acc, .fr (.int i), .fr (.int j), .fr (.int t.1), .fr (.int t.2.1), .fr (.int t.2.2)] = some (kk i j t) := by
      simp only [s_andT, s_blF, s_bind2, s_vF, List.getElem?_cons_zero, List.getElem?_cons_succ, Option.bind_some, s_eqi]
      unfold kk
      by_cases q : t.1 = i <;> simp [q]
    rw [List.map_cons]
    unfold loopF
    rw [g, Option.bind_some]
    obtain ⟨h1, h2, h3, h4⟩ := hu t List.mem_cons_self
    cases hk : kk i j t with
    | true =>
      obtain ⟨s4', s5', s6', e⟩ := w_in a0 i j us (acc ++ [sW t]) (.fr (.int t.1)) (.fr (.int t.2.1)) (.fr (.int t.2.2)) (fun u hu' => hu u (List.mem_cons_of_mem _ hu')) (by simp; omega)
      refine ⟨s4', s5', s6', ?_⟩
      have eij := of_decide_eq_true hk
      obtain ⟨c1, c2⟩ := cat3 (a := 97 + i.toNat) (b := 97 + j.toNat) (c := fig t.2.2) (z := ⟨#[fig t.2.2]⟩) rfl
      have st : wB [a0, .ol acc, .fr (.int i), .fr (.int j), .fr (.int t.1), .fr (.int t.2.1), .fr (.int t.2.2)] = some (.nx [a0, .ol (acc ++ [sW t]), .fr (.int i), .fr (.int j), .fr (.int t.1), .fr (.int t.2.1), .fr (.int t.2.2)]) := by
        unfold wB
        rw [ifS_t (by rw [tt, hk])]
        simp only [s_appendF, s_bind2, s_vF, s_cF, List.getElem?_cons_zero, List.getElem?_cons_succ, Option.bind_some, ixA (show 0 ≤ i by omega) (show i < 6 by omega), ixA (show 0 ≤ j by omega) (show j < 6 by omega), c1, fig7 h1, c2, List.set_cons_succ, List.set_cons_zero]
        rw [if_pos (big5 (by omega))]
        unfold sW wS
        rw [eij.1, eij.2]
      rw [st, List.filter_cons_of_pos hk]
      simp only [Option.bind_some]
      rw [e]
      simp
    | false =>
      obtain ⟨s4', s5', s6', e⟩ := w_in a0 i j us acc (.fr (.int t.1)) (.fr (.int t.2.1)) (.fr (.int t.2.2)) (fun u hu' => hu u (List.mem_cons_of_mem _ hu')) (by omega)
      refine ⟨s4', s5', s6', ?_⟩
      have st : wB [a0, .ol acc, .fr (.int i), .fr (.int j), .fr (.int t.1), .fr (.int t.2.1), .fr (.int t.2.2)] = some (.nx [a0, .ol acc, .fr (.int i), .fr (.int j), .fr (.int t.1), .fr (.int t.2.1), .fr (.int t.2.2)]) := by
        unfold wB
        rw [ifS_f (by rw [tt, hk])]; rfl
      rw [st, List.filter_cons_of_neg (by simp [hk])]
      simp only [Option.bind_some]
      exact e
theorem flt_len (ts : List T3) (i j : Int) : (ts.filter (kk i j)).length ≤ ts.length := List.length_filter_le ..
theorem w_mid {n : Nat} {ts : List T3} (i : Int) (hu : ∀ t ∈ ts, OkT 6 t) (hl : ts.length ≤ 63) : ∀ (js : List Int) (acc : List D) (s3 s4 s5 s6 : FL.Slot), acc.length + 63 * js.length ≤ 4900 → ∃ s3' s4' s5' s6',
    loopF (nameG 3) (forF (seqX (bind2 ixD (vF 0) (cF (.int 1)))) γw wB) (js.map D.int) [.fr (hD n ts), .ol acc, .fr (.int i), s3, s4, s5, s6] = some (.nx [.fr (hD n ts), .ol (acc ++ (js.flatMap fun j => ts.filter (kk i j)).map sW), .fr (.int i), s3', s4', s5', s6'])
  | [], acc, s3, s4, s5, s6, _ => ⟨s3, s4, s5, s6, by simp; rfl⟩
  | j :: js, acc, s3, s4, s5, s6, hn => by
    rw [List.length_cons] at hn
    have fl := flt_len ts i j
    obtain ⟨r4, r5, r6, e1⟩ := w_in (.fr (hD n ts)) i j ts acc s4 s5 s6 hu (by omega)
    obtain ⟨s3', s4', s5', s6', e⟩ := w_mid (n := n) (ts := ts) i hu hl js (acc ++ (ts.filter (kk i j)).map sW) (.fr (.int j)) r4 r5 r6 (by simp; omega)
    refine ⟨s3', s4', s5', s6', ?_⟩
    have st : forF (seqX (bind2 ixD (vF 0) (cF (.int 1)))) γw wB [.fr (hD n ts), .ol acc, .fr (.int i), .fr (.int j), s4, s5, s6] = some (.nx [.fr (hD n ts), .ol (acc ++ (ts.filter (kk i j)).map sW), .fr (.int i), .fr (.int j), r4, r5, r6]) := by
      have sq : seqX (bind2 ixD (vF 0) (cF (.int 1))) [.fr (hD n ts), .ol acc, .fr (.int i), .fr (.int j), s4, s5, s6] = some (ts.map tD) := by
        have e1 : ixD (hD n ts) (.int 1) = some (.lst (ts.map tD)) := ix1
        simp only [s_seqX, s_bind2, s_vF, s_cF, List.getElem?_cons_zero, List.getElem?_cons_succ, Option.bind_some, e1]
        rfl
      rw [s_forF, sq, Option.bind_some]
      exact e1
    rw [List.map_cons]
    unfold loopF
    simp only [s_nameG, List.set_cons_succ, List.set_cons_zero, Option.bind_some, st]
    rw [e]
    simp
def rI (lo hi : Int) : List Int := (List.range (hi - lo).toNat).map fun (k : Nat) => lo + (k : Int)
theorem rI_D (lo hi : Int) : rangeD lo hi = (rI lo hi).map D.int := by unfold rangeD rI; rw [List.map_map]; rfl
theorem rI_mem {lo hi x : Int} : x ∈ rI lo hi ↔ lo ≤ x ∧ x < hi := by
  unfold rI
  rw [List.mem_map]
  constructor
  · rintro ⟨k, hk, rfl⟩
    have := List.mem_range.mp hk
    omega
  · intro h
    exact ⟨(x - lo).toNat, List.mem_range.mpr (by omega), by omega⟩
theorem rI_lt (lo hi : Int) : (rI lo hi).Pairwise (· < ·) := by
  unfold rI
  rw [List.pairwise_map]
  exact List.pairwise_lt_range.imp fun h => by omega
theorem rI_len (lo hi : Int) : (rI lo hi).length = (hi - lo).toNat := by unfold rI; simp
def en (n : Int) (ts : List T3) (is : List Int) : List T3 := is.flatMap fun i => (rI (i + 1) n).flatMap fun j => ts.filter (kk i j)
theorem w_out {n : Nat} {ts : List T3} (hn6 : n ≤ 6) (hu : ∀ t ∈ ts, OkT 6 t) (hl : ts.length ≤ 63) : ∀ (is : List Int) (acc : List D) (s2 s3 s4 s5 s6 : FL.Slot), (∀ i ∈ is, 0 ≤ i ∧ i < 6) → acc.length + 378 * is.length ≤ 4000 → ∃ s2' s3' s4' s5' s6',
    loopF (nameG 2) (forF (rng2 (consA (bind2 addX (vF 2) (cF (.int 1))) (consA (bind2 ixD (vF 0) (cF (.int 0))) nilA))) (nameG 3) (forF (seqX (bind2 ixD (vF 0) (cF (.int 1)))) γw wB)) (is.map D.int) [.fr (hD n ts), .ol acc, s2, s3, s4, s5, s6] = some (.nx [.fr (hD n ts), .ol (acc ++ (en n ts is).map sW), s2', s3', s4', s5', s6'])
  | [], acc, s2, s3, s4, s5, s6, _, _ => ⟨s2, s3, s4, s5, s6, by simp [en]; rfl⟩
  | i :: is, acc, s2, s3, s4, s5, s6, hi, hn => by
    rw [List.length_cons] at hn
    obtain ⟨i0, i6⟩ := hi i List.mem_cons_self
    have rl := rI_len (i + 1) n
    obtain ⟨r3, r4, r5, r6, e1⟩ := w_mid (n := n) i hu hl (rI (i + 1) n) acc s3 s4 s5 s6 (by rw [rl]; omega)
    have fl : ((rI (i + 1) n).flatMap fun j => ts.filter (kk i j)).length ≤ 378 := by
      have : ∀ js : List Int, (js.flatMap fun j => ts.filter (kk i j)).length ≤ 63 * js.length := by
        intro js
        induction js with
        | nil => simp
        | cons j js ih =>
          rw [List.flatMap_cons, List.length_append, List.length_cons]
          have := flt_len ts i j
          omega
      have := this (rI (i + 1) n)
      rw [rl] at this
      omega
    obtain ⟨s2', s3', s4', s5', s6', e⟩ := w_out (n := n) (ts := ts) hn6 hu hl is (acc ++ ((rI (i + 1) n).flatMap fun j => ts.filter (kk i j)).map sW) (.fr (.int i)) r3 r4 r5 r6 (fun x hx => hi x (List.mem_cons_of_mem _ hx)) (by simp only [List.length_append, List.length_map]; omega)
    refine ⟨s2', s3', s4', s5', s6', ?_⟩
    have st : forF (rng2 (consA (bind2 addX (vF 2) (cF (.int 1))) (consA (bind2 ixD (vF 0) (cF (.int 0))) nilA))) (nameG 3) (forF (seqX (bind2 ixD (vF 0) (cF (.int 1)))) γw wB) [.fr (hD n ts), .ol acc, .fr (.int i), s3, s4, s5, s6] = some (.nx [.fr (hD n ts), .ol (acc ++ ((rI (i + 1) n).flatMap fun j => ts.filter (kk i j)).map sW), .fr (.int i), r3, r4, r5, r6]) := by
      have e0 : ixD (hD n ts) (.int 0) = some (.int n) := ix0
      have rb : rangeB [.int (i + 1), .int n] = some (rangeD (i + 1) n) := rangeB_ok (by omega) (by omega) (by omega) (by omega)
      simp only [s_forF, s_rng2, s_consA, s_nilA, s_bind2, s_vF, s_cF, List.getElem?_cons_zero, List.getElem?_cons_succ, Option.bind_some, s_add, e0, rb, rI_D]
      exact e1
    rw [List.map_cons]
    unfold loopF
    simp only [s_nameG, List.set_cons_succ, List.set_cons_zero, Option.bind_some, st]
    rw [e]
    simp [en]
theorem words_val {n : Nat} {ts : List T3} (hn6 : n ≤ 6) (hu : ∀ t ∈ ts, OkT 6 t) (hl : ts.length ≤ 63) : g_l_words [hD n ts] = some (.lst ((en n ts (rI 0 n)).map sW)) := by
  have rl := rI_len 0 n
  obtain ⟨s2, s3, s4, s5, s6, e⟩ := w_out (n := n) hn6 hu hl (rI 0 n) [] .no .no .no .no .no (fun i hi => by have := rI_mem.mp hi; omega) (by simp only [List.length_nil]; omega)
  rw [List.nil_append] at e
  show outD (F_l_words [.fr (hD n ts), .no, .no, .no, .no, .no, .no]) = _
  unfold F_l_words
  have e0 : ixD (hD n ts) (.int 0) = some (.int n) := ix0
  have ra : rangeA [.int (n : Int)] = some (rangeD 0 n) := rangeA_ok (by omega) (by omega)
  rw [seq_nx (ρ' := [.fr (hD n ts), .ol [], .no, .no, .no, .no, .no]) (by
      simp only [s_asgN, s_lstF, s_nilA, Option.bind_some, List.length_nil, Nat.zero_le, if_true, List.set_cons_succ, List.set_cons_zero]),
    seq_nx (ρ' := [.fr (hD n ts), .ol ((en n ts (rI 0 n)).map sW), s2, s3, s4, s5, s6]) (by
      simp only [s_forF, s_rng1, s_consA, s_nilA, s_bind2, s_vF, s_cF, List.getElem?_cons_zero, Option.bind_some, e0, ra, rI_D]
      exact e)]
  rfl
def lx (t u : T3) : Prop := t.1 < u.1 ∨ (t.1 = u.1 ∧ t.2.1 < u.2.1)
theorem lx_ltR {t u : T3} (h : lx t u) : ltR (eP (l3 u)) (eP (l3 t)) = false := by
  show (if (u.1, (0 : Int)) = (t.1, 0) then (if (u.2.1, (0 : Int)) = (t.2.1, 0) then _ else ltP (u.2.1, 0) (t.2.1, 0)) else ltP (u.1, 0) (t.1, 0)) = false
  rcases h with h | ⟨h, h'⟩
  · rw [if_neg (fun e => by have := (Prod.mk.inj e).1; omega), ltP0]
    exact decide_eq_false (by omega)
  · rw [if_pos (by rw [h]), if_neg (fun e => by have := (Prod.mk.inj e).1; omega), ltP0]
    exact decide_eq_false (by omega)
theorem mem_en {n : Int} {ts : List T3} {is : List Int} {t : T3} : t ∈ en n ts is ↔ t ∈ ts ∧ t.1 ∈ is ∧ t.1 + 1 ≤ t.2.1 ∧ t.2.1 < n := by
  unfold en
  simp only [List.mem_flatMap, List.mem_filter, kk, decide_eq_true_eq]
  constructor
  · rintro ⟨i, hi, j, hj, ht, e1, e2⟩
    have := rI_mem.mp hj
    subst e1 e2
    exact ⟨ht, hi, this.1, this.2⟩
  · rintro ⟨h1, h2, h3, h4⟩
    exact ⟨t.1, h2, t.2.1, rI_mem.mpr ⟨h3, h4⟩, h1, rfl, rfl⟩
theorem flt_pw {ts : List T3} (hn : (ts.map kyT).Nodup) (i j : Int) : (ts.filter (kk i j)).Pairwise lx := by
  have h : ts.Pairwise fun a b => kyT a ≠ kyT b := by
    have := List.nodup_iff_pairwise_ne.mp hn
    rw [List.pairwise_map] at this
    exact this
  have h2 := h.filter (kk i j)
  refine List.Pairwise.imp_of_mem (fun {a b} ha hb q => ?_) h2
  have qa := of_decide_eq_true (List.mem_filter.mp ha).2
  have qb := of_decide_eq_true (List.mem_filter.mp hb).2
  refine absurd ?_ q
  show [_, _] = [_, _]
  rw [qa.1, qa.2, qb.1, qb.2]
theorem en_pw {n : Int} {ts : List T3} (hn : (ts.map kyT).Nodup) {is : List Int} (hi : is.Pairwise (· < ·)) : (en n ts is).Pairwise lx := by
  unfold en
  rw [List.pairwise_flatMap]
  refine ⟨fun i _ => ?_, hi.imp fun {a b} h t ht u hu => ?_⟩
  · rw [List.pairwise_flatMap]
    refine ⟨fun j _ => flt_pw hn i j, (rI_lt _ _).imp fun {a b} h t ht u hu => ?_⟩
    have q1 := of_decide_eq_true (List.mem_filter.mp ht).2
    have q2 := of_decide_eq_true (List.mem_filter.mp hu).2
    exact .inr ⟨by rw [q1.1, q2.1], by rw [q1.2, q2.2]; exact h⟩
  · obtain ⟨j, _, ht⟩ := List.mem_flatMap.mp ht
    obtain ⟨j', _, hu⟩ := List.mem_flatMap.mp hu
    have q1 := of_decide_eq_true (List.mem_filter.mp ht).2
    have q2 := of_decide_eq_true (List.mem_filter.mp hu).2
    exact .inl (by rw [q1.1, q2.1]; exact h)
theorem nd_of_keys {ts : List T3} (hn : (ts.map kyT).Nodup) : ts.Nodup := by
  have := List.nodup_iff_pairwise_ne.mp hn
  rw [List.pairwise_map] at this
  exact List.nodup_iff_pairwise_ne.mpr (this.imp fun h e => h (by rw [e]))
theorem en_srt {n : Nat} {ts : List T3} (hu : ∀ t ∈ ts, OkT n t) (hn : (ts.map kyT).Nodup) : en n ts (rI 0 n) = srt ts := by
  have pw := en_pw (n := n) hn (rI_lt 0 n)
  have nd : (en n ts (rI 0 n)).Nodup := List.nodup_iff_pairwise_ne.mpr (pw.imp fun h e => by subst e; unfold lx at h; omega)
  have pm : (en n ts (rI 0 n)).Perm ts := by
    rw [List.perm_ext_iff_of_nodup nd (nd_of_keys hn)]
    intro t
    rw [mem_en]
    constructor
    · exact fun h => h.1
    · intro h
      obtain ⟨_, h2, h3, h4⟩ := hu t h
      exact ⟨h, rI_mem.mpr ⟨h2, by omega⟩, by omega, h4⟩
  have so : sortR ((ts.map l3).map eP) = ((en n ts (rI 0 n)).map l3).map eP := sortR_eq ((pm.map l3).map eP) (by
    rw [List.map_map]
    show List.Pairwise (fun a b : List (Int × Int) => ltR b a = false) (List.map (eP ∘ l3) (en n ts (rI 0 n)))
    rw [List.pairwise_map]
    exact pw.imp fun h => lx_ltR h)
  unfold srt sortT
  rw [so, List.map_map, List.map_map, List.map_map]
  refine ((List.map_congr_left fun t _ => ?_).trans (List.map_id _)).symm
  show t3 ((eP (l3 t)).map (·.1)) = t
  rw [fst_eP]; rfl
theorem whole_int (i : Int) : g_l_whole [.int i] = some (.bl true) := by simp [g_l_whole, F_l_whole, subTy, tyN]
noncomputable def saB : FS := (ifS (orT (notT (blF (bind1 (isTy "tuple") (vF 2)))) (blF (bind2 gtD (appF lenD (consA (mapLst (compF 1 [] (seqX (vF 2)) (nameG 0) (notT (blF (appF g_l_whole (consA (vF 0) nilA)))) (vF 0))) nilA)) (cF (.int 0))))) (retF (cF (.bl false))) nxF)
theorem saB_val (a0 a1 : FL.Slot) (t : T3) : saB [a0, a1, .fr (tD t)] = some (.nx [a0, a1, .fr (tD t)]) := by
  have c : compF 1 [] (seqX (vF 2)) (nameG 0) (notT (blF (appF g_l_whole (consA (vF 0) nilA)))) (vF 0) [a0, a1, .fr (tD t)] = some [] := by
    rw [compF_ok (ds := [.int t.1, .int t.2.1, .int t.2.2]) rfl (show 3 ≤ sizeLine from sz1 (by decide))]
    show compGo _ _ _ [.int t.1, .int t.2.1, .int t.2.2] [.no] = _
    refine cnone _ _ fun d hd => ?_
    have : ∃ i, d = .int i := by
      simp only [List.mem_cons, List.not_mem_nil, or_false] at hd
      rcases hd with rfl | rfl | rfl <;> exact ⟨_, rfl⟩
    obtain ⟨i, rfl⟩ := this
    simp only [s_notT, s_blF, s_appF, s_consA, s_nilA, s_vF, List.getElem?_cons_zero, Option.bind_some, whole_int, Bool.not_true]
  have i : bind1 (isTy "tuple") (vF 2) [a0, a1, .fr (tD t)] = some (.bl true) := rfl
  unfold saB
  rw [ifS_f ?_]
  · rfl
  · rw [s_orT, s_notT, s_blF, i]
    simp only [Option.bind_some, Bool.not_true, Bool.false_eq_true, if_false]
    rw [s_blF, s_bind2, s_appF, s_consA, s_mapLst, c]
    simp
theorem sa_loop (a0 a1 : FL.Slot) : ∀ (ts : List T3) (s : FL.Slot), ∃ s', loopF (nameG 2) saB (ts.map tD) [a0, a1, s] = some (.nx [a0, a1, s'])
  | [], s => ⟨s, rfl⟩
  | t :: ts, s => by
    obtain ⟨s', e⟩ := sa_loop a0 a1 ts (.fr (tD t))
    refine ⟨s', ?_⟩
    rw [List.map_cons]
    unfold loopF
    simp only [s_nameG, List.set_cons_succ, List.set_cons_zero, Option.bind_some, saB_val]
    exact e
theorem dep_hD (n : Int) (ts : List T3) : dep (hD n ts) ≤ 100 := by
  have h : depL (ts.map tD) ≤ 1 := depL_le fun d hd => by
    obtain ⟨t, _, rfl⟩ := List.mem_map.mp hd
    simp [tD, dep, depL]
  simp only [hD, dep, depL]
  omega
theorem sz2 (a b : D) : (if [a, b].length ≤ sizeLine then some (D.tup [a, b]) else none) = some (.tup [a, b]) := if_pos (show 2 ≤ sizeLine from by decide)
theorem same_val {n : Int} {ts : List T3} (hl : ts.length < 64) : g_l_same [hD n (srt ts), hD n ts] = some (.bl true) := by
  have e0 : ∀ us, ixD (hD n us) (.int 0) = some (.int n) := fun us => ix0
  have e1 : ∀ us, ixD (hD n us) (.int 1) = some (.lst (us.map tD)) := fun us => ix1
  have y1 : isTy "tuple" (hD n (srt ts)) = some (.bl true) := rfl
  have y2 : isTy "list" (.lst ((srt ts).map tD)) = some (.bl true) := rfl
  have y3 : lenD [hD n (srt ts)] = some (.int 2) := rfl
  obtain ⟨s', el⟩ := sa_loop (.fr (hD n (srt ts))) (.fr (hD n ts)) (srt ts) .no
  show outD (F_l_same [.fr (hD n (srt ts)), .fr (hD n ts), .no]) = _
  unfold F_l_same
  have so : sortTN (consA (bind2 ixD (vF 1) (cF (.int 1))) nilA) [.fr (hD n (srt ts)), .fr (hD n ts), s'] = some ((srt ts).map tD) := sort_val (by
    simp only [s_consA, s_nilA, s_bind2, s_vF, s_cF, List.getElem?_cons_zero, List.getElem?_cons_succ, Option.bind_some, e1]) hl
  rw [seq_nx (ρ' := [.fr (hD n (srt ts)), .fr (hD n ts), .no]) (by
      rw [ifS_f ?_]
      · rfl
      · simp only [s_orT, s_notT, s_blF, s_bind1, s_bind2, s_appF, s_consA, s_nilA, s_vF, s_cF, List.getElem?_cons_zero, List.getElem?_cons_succ, Option.bind_some, y1, y3, s_nei, e0, e1, whole_int, y2, Bool.not_true, Bool.false_eq_true, if_false, decide_true]),
    seq_nx (ρ' := [.fr (hD n (srt ts)), .fr (hD n ts), s']) (by
      rw [s_forF]
      have sq : seqX (bind2 ixD (vF 0) (cF (.int 1))) [.fr (hD n (srt ts)), .fr (hD n ts), .no] = some ((srt ts).map tD) := by
        simp only [s_seqX, s_bind2, s_vF, s_cF, List.getElem?_cons_zero, List.getElem?_cons_succ, Option.bind_some, e1]
        rfl
      rw [sq, Option.bind_some]
      exact el)]
  simp only [s_retF, s_bind2, s_tupF, s_consA, s_nilA, s_mapLst, s_vF, s_cF, List.getElem?_cons_zero, List.getElem?_cons_succ, Option.bind_some, e0, so, Option.map_some, sz2]
  show outD ((eqF (hD n (srt ts)) (hD n (srt ts))).bind _) = _
  rw [eq_same (dep_hD n _)]
  rfl
theorem map_sW (us : List T3) : us.map sW = (us.map wS).map D.str := by rw [List.map_map]; rfl
theorem join_h {n : Nat} {us : List T3} (hn : n ≤ 6) (hl : us.length ≤ 63) : joinD (.str " ") (.lst (.str (si n) :: us.map sW)) = some (.str (hS n us)) := by
  rw [map_sW]
  exact joinS (ts := si n :: us.map wS) (by rw [wgt_h n us hn]; omega)
theorem shown_val {n : Nat} {ts : List T3} (hn6 : n ≤ 6) (hu : ∀ t ∈ ts, OkT 6 t) (hl : ts.length ≤ 63) : g_shown_house [hD n ts] = some (.str (hS n (srt ts))) := by
  have e0 : ixD (hD n ts) (.int 0) = some (.int n) := ix0
  have e1 : ixD (hD n ts) (.int 1) = some (.lst (ts.map tD)) := ix1
  have sl : (srt ts).length ≤ 63 := by rw [(srt_perm ts).length_eq]; exact hl
  show outD (F_shown_house [.fr (hD n ts), .no]) = _
  unfold F_shown_house
  have so : seqX (mapLst (sortTN (consA (bind2 ixD (vF 0) (cF (.int 1))) nilA))) [.fr (hD n ts), .no] = some ((srt ts).map tD) := by
    rw [s_seqX, s_mapLst, sort_val (ts := ts) (by
      simp only [s_consA, s_nilA, s_bind2, s_vF, s_cF, List.getElem?_cons_zero, List.getElem?_cons_succ, Option.bind_some, e1]) (by omega)]
    rfl
  have cc : compF 3 [] (seqX (mapLst (sortTN (consA (bind2 ixD (vF 0) (cF (.int 1))) nilA)))) (tupG 3 (consG (nameG 0) (consG (nameG 1) (consG (nameG 2) nilG)))) ttF (appF g_shown_turn (consA (vF 0) (consA (vF 1) (consA (vF 2) nilA)))) [.fr (hD n ts), .no] = some ((srt ts).map sW) := by
    rw [compF_ok so (by rw [List.length_map]; exact sz1 (by omega))]
    show compGo _ _ _ ((srt ts).map tD) [.no, .no, .no] = _
    refine cmap3 _ _ _ _ fun t ht => ?_
    have ok := hu t ((srt_perm ts).mem_iff.mp ht)
    simp only [s_appF, s_consA, s_nilA, s_vF, List.getElem?_cons_zero, List.getElem?_cons_succ, Option.bind_some, turn_val ok]
    rfl
  obtain ⟨f1, _⟩ := str_fig (m := (n : Int)) (by omega) (by omega)
  have ad : addX (.lst [.str (si n)]) (.lst ((srt ts).map sW)) = some (.lst (.str (si n) :: (srt ts).map sW)) := by
    show (if _ then _ else _) = _
    rw [if_pos (by rw [List.length_map]; exact sz1 (by simp; omega))]
    rfl
  rw [seq_nx (ρ' := [.fr (hD n ts), .fr (.lst ((srt ts).map sW))]) (by rw [s_asgF, s_mapLst, cc]; rfl)]
  simp only [s_retF, s_bind2, s_mapLst, s_lstF, s_appF, s_consA, s_nilA, s_vF, s_cF, List.getElem?_cons_zero, List.getElem?_cons_succ, Option.bind_some, e0, f1, List.length_cons, List.length_nil, Nat.reduceAdd, show (1 : Nat) ≤ sizeLine from sz1 (by decide), if_true, Option.map_some, ad, join_h hn6 sl, s_outR]
theorem law_true (ns : List Int) (hl : ns.length ≤ 63) : g_law [.lst (ns.map D.int)] = some (.bl true) := by
  obtain ⟨n, ts, h1, h6, ht, hn, hts, eh⟩ := house_val ns hl
  have eh : g_l_house [.lst (ns.map D.int), .int 0] = some (hD n ts) := eh
  have okn : ∀ t ∈ ts, OkT n t := ht
  have ok6 : ∀ t ∈ ts, OkT 6 t := fun t h => by
    obtain ⟨a, b, c, d⟩ := okn t h
    exact ⟨a, b, c, by omega⟩
  have oks : ∀ t ∈ srt ts, OkT n t := fun t h => okn t ((srt_perm ts).mem_iff.mp h)
  have ns' : ((srt ts).map kyT).Nodup := (((srt_perm ts).map kyT).nodup_iff).mpr hn
  have sl : (srt ts).length ≤ 63 := by rw [(srt_perm ts).length_eq]; exact hts
  have ew : g_l_words [hD n ts] = some (.lst ((srt ts).map sW)) := by rw [words_val h6 ok6 hts, en_srt okn hn]
  have es := shown_val h6 ok6 hts
  have e0 : ixD (hD n ts) (.int 0) = some (.int n) := ix0
  have e1 : ixD (hD n ts) (.int 1) = some (.lst (ts.map tD)) := ix1
  obtain ⟨f1, _⟩ := str_fig (m := (n : Int)) (by omega) (by omega)
  have rd : ∀ us : List T3, us.Perm (srt ts) → g_read_house [.str (hS n us)] = some (hD n (srt ts)) := fun us hp => by
    have := read_hS (n := n) (us := us) h1 h6 (fun t h => oks t (hp.mem_iff.mp h)) (((hp.map kyT).nodup_iff).mpr ns') (by rw [hp.length_eq]; exact sl)
    rw [this, srt_same (hp.trans (srt_perm ts))]
  have sm := same_val (n := n) (ts := ts) (by omega)
  have ad : ∀ us : List T3, us.length ≤ 63 → addX (.lst [.str (si n)]) (.lst (us.map sW)) = some (.lst (.str (si n) :: us.map sW)) := fun us hu => by
    show (if _ then _ else _) = _
    rw [if_pos (by rw [List.length_map]; exact sz1 (by simp; omega))]
    rfl
  have s1 : (1 : Nat) ≤ sizeLine := sz1 (by decide)
  show @ite _ (GL _) (Classical.propDecidable _) (some (D.bl true)) none = _
  refine if_pos ⟨hD n ts, .lst ((srt ts).map sW), hD n ts, hS n (srt ts), .int n, (srt ts).map tD, ?_, rd _ (List.Perm.refl _), ?_, sm, ?_⟩
  · rw [seq_nx (ρ' := [.fr (.lst (ns.map D.int)), .fr (hD n ts), .no, .no, .no, .no, .no, .no, .no]) (by
        unfold F_0
        simp only [s_asgF, s_appF, s_consA, s_nilA, s_vF, s_cF, List.getElem?_cons_zero, Option.bind_some, eh, List.set_cons_succ, List.set_cons_zero]),
      seq_nx (ρ' := [.fr (.lst (ns.map D.int)), .fr (hD n ts), .fr (.lst ((srt ts).map sW)), .no, .no, .no, .no, .no, .no]) (by
        unfold F_1
        simp only [s_asgF, s_appF, s_consA, s_nilA, s_vF, List.getElem?_cons_zero, List.getElem?_cons_succ, Option.bind_some, ew, List.set_cons_succ, List.set_cons_zero]),
      seq_nx (ρ' := [.fr (.lst (ns.map D.int)), .fr (hD n ts), .fr (.lst ((srt ts).map sW)), .fr (hD n ts), .no, .no, .no, .no, .no]) (by
        unfold F_2
        simp only [s_asgF, s_tupF, s_mapLst, s_listN, s_consA, s_nilA, s_bind2, s_vF, s_cF, List.getElem?_cons_zero, List.getElem?_cons_succ, Option.bind_some, e0, e1, Option.map_some, sz2, List.set_cons_succ, List.set_cons_zero]
        rfl),
      seq_nx (ρ' := [.fr (.lst (ns.map D.int)), .fr (hD n ts), .fr (.lst ((srt ts).map sW)), .fr (hD n ts), .fr (.str (hS n (srt ts))), .no, .no, .no, .no]) (by
        unfold F_3
        simp only [s_asgF, s_appF, s_consA, s_nilA, s_vF, List.getElem?_cons_zero, List.getElem?_cons_succ, Option.bind_some, es, List.set_cons_succ, List.set_cons_zero])]
    unfold F_4
    have q3 : isTy "str" (.str (hS n (srt ts))) = some (.bl true) := rfl
    rw [ifS_f ?_]
    · rfl
    · simp only [s_orT, s_notT, s_blF, s_bind1, s_bind2, s_mapLst, s_lstF, s_appF, s_consA, s_nilA, s_vF, s_cF, List.getElem?_cons_zero, List.getElem?_cons_succ, Option.bind_some, q3, e0, f1, List.length_cons, List.length_nil, Nat.reduceAdd, s1, if_true, Option.map_some, ad _ sl, join_h h6 sl, ne_same (d := .str (hS n (srt ts))) (by simp [dep]), ne_same (dep_hD n ts), Bool.not_true, Bool.false_eq_true, if_false]
  · rw [List.length_map]; exact big5 (by omega)
  · obtain ⟨c, ec⟩ := at0_val ns hl
    obtain ⟨a, ha, ea⟩ := mix_valI c 5 (by decide) (by decide)
    unfold F_t
    have hp : (0 : Int) < ((srt ts).length : Int) + 1 := by omega
    obtain ⟨k, ek, hk⟩ : ∃ k : Nat, a % (((srt ts).length : Int) + 1) = (k : Int) ∧ k ≤ (srt ts).length := by
      have := Int.emod_nonneg a (show ((srt ts).length : Int) + 1 ≠ 0 by omega)
      have := Int.emod_lt_of_pos a hp
      exact ⟨(a % (((srt ts).length : Int) + 1)).toNat, by omega, by omega⟩
    let us0 : List T3 := (srt ts).drop k ++ (srt ts).take k
    have p0 : us0.Perm (srt ts) := List.perm_append_comm.trans (by rw [List.take_append_drop])
    have m8 : bind2 addX (sliceX (vF 2) (exP (vF 7)) noP) (sliceX (vF 2) noP (exP (vF 7))) [.fr (.lst (ns.map D.int)), .fr (hD n ts), .fr (.lst ((srt ts).map sW)), .fr (hD n ts), .fr (.str (hS n (srt ts))), .no, .fr (.int a), .fr (.int k), .no] = some (.lst (us0.map sW)) := by
      simp only [s_bind2, s_sliceX, s_exP, s_noP, s_vF, List.getElem?_cons_zero, List.getElem?_cons_succ, Option.bind_some]
      rw [cut_from _ k (by rw [List.length_map]; exact hk), cut_to _ k (by rw [List.length_map]; exact hk)]
      show (if _ then _ else _) = _
      rw [if_pos (by simp only [List.length_drop, List.length_take, List.length_map]; exact sz1 (by omega))]
      rw [← List.map_drop, ← List.map_take, ← List.map_append]
    obtain ⟨us, pu, e8⟩ : ∃ us : List T3, us.Perm (srt ts) ∧ ifS (blF (bind2 eqF (bind2 modD (bind2 fdivD (vF 6) (cF (.int 64))) (cF (.int 2))) (cF (.int 0)))) (asgF 8 (revF (vF 8) (bind1 negD (cF (.int 1))))) nxF [.fr (.lst (ns.map D.int)), .fr (hD n ts), .fr (.lst ((srt ts).map sW)), .fr (hD n ts), .fr (.str (hS n (srt ts))), .no, .fr (.int a), .fr (.int k), .fr (.lst (us0.map sW))] = some (.nx [.fr (.lst (ns.map D.int)), .fr (hD n ts), .fr (.lst ((srt ts).map sW)), .fr (hD n ts), .fr (.str (hS n (srt ts))), .no, .fr (.int a), .fr (.int k), .fr (.lst (us.map sW))]) := by
      have t : blF (bind2 eqF (bind2 modD (bind2 fdivD (vF 6) (cF (.int 64))) (cF (.int 2))) (cF (.int 0))) [.fr (.lst (ns.map D.int)), .fr (hD n ts), .fr (.lst ((srt ts).map sW)), .fr (hD n ts), .fr (.str (hS n (srt ts))), .no, .fr (.int a), .fr (.int k), .fr (.lst (us0.map sW))] = some (decide (a / 64 % 2 = 0)) := by
        simp only [s_blF, s_bind2, s_vF, s_cF, List.getElem?_cons_zero, List.getElem?_cons_succ, Option.bind_some, fdivD_ok (i := a) (show (0 : Int) < 64 by decide) (by decide), modD_ok (show (0 : Int) < 2 by decide), s_eqi]
      by_cases q : a / 64 % 2 = 0
      · refine ⟨us0.reverse, (List.reverse_perm us0).trans p0, ?_⟩
        rw [ifS_t (by rw [t, decide_eq_true q])]
        simp only [s_asgF, s_revF, s_bind1, s_vF, s_cF, List.getElem?_cons_zero, List.getElem?_cons_succ, Option.bind_some, s_neg, if_true, List.set_cons_succ, List.set_cons_zero, List.map_reverse]
      · exact ⟨us0, p0, by rw [ifS_f (by rw [t, decide_eq_false q])]; rfl⟩
    have ul : us.length ≤ 63 := by rw [pu.length_eq]; exact sl
    rw [seq_nx (ρ' := [.fr (.lst (ns.map D.int)), .fr (hD n ts), .fr (.lst ((srt ts).map sW)), .fr (hD n ts), .fr (.str (hS n (srt ts))), .no, .fr (.int a), .no, .no]) (by
        simp only [s_asgF, s_appF, s_consA, s_nilA, s_vF, s_cF, List.getElem?_cons_zero, Option.bind_some, ec, ea, List.set_cons_succ, List.set_cons_zero]),
      seq_nx (ρ' := [.fr (.lst (ns.map D.int)), .fr (hD n ts), .fr (.lst ((srt ts).map sW)), .fr (hD n ts), .fr (.str (hS n (srt ts))), .no, .fr (.int a), .fr (.int k), .no]) (by
        simp only [s_asgF, s_bind2, s_appF, s_consA, s_nilA, s_vF, s_cF, List.getElem?_cons_zero, List.getElem?_cons_succ, Option.bind_some, s_lenL, List.length_map, s_add, modD_ok hp, ek, List.set_cons_succ, List.set_cons_zero]),
      seq_nx (ρ' := [.fr (.lst (ns.map D.int)), .fr (hD n ts), .fr (.lst ((srt ts).map sW)), .fr (hD n ts), .fr (.str (hS n (srt ts))), .no, .fr (.int a), .fr (.int k), .fr (.lst (us0.map sW))]) (by rw [s_asgF, m8]; rfl),
      seq_nx e8]
    simp only [s_retF, s_andV, s_bind2, s_mapLst, s_lstF, s_appF, s_consA, s_nilA, s_vF, s_cF, List.getElem?_cons_zero, List.getElem?_cons_succ, Option.bind_some, e0, f1, List.length_cons, List.length_nil, Nat.reduceAdd, s1, if_true, Option.map_some, ad _ ul, join_h h6 ul, rd us pu, rd _ (List.Perm.refl _), sm]
end Pk13
open PySem PySem.W PyProof.Rows FL L2 in
set_option maxRecDepth 100000 in
set_option maxHeartbeats 0 in
theorem PySem.Challenge.cw_mirrorhouse_k13_houses_shown_and_read_holds : PySem.Challenge.rw_mirrorhouse_k13_houses_shown_and_read.Holds := by
  w_on; o_law; k_head; (case hw => w_witness2)
  k_fill
  refine L2.walk_ofK (l := PySem.Challenge.rw_mirrorhouse_k13_houses_shown_and_read) (n := 63) (k := 3) (x := "_law_script") (CX := CX0) (sp := fun K => FL.spF K 1 Pk13.g_law) rfl (by decide) rfl ⟨rfl, by decide, by decide⟩ (fun w h Y => PySem.W.kIn_of Y) ?F (fun K H a ns hl _ hS => FL.law_sp hS (Pk13.law_true ns hl)) (fun _ _ _ _ z => z)
  case F =>
    intro w mg fa h KX G hmg
    refine' Pk13.all_mk KX G hmg ?a0 ?l0 ?c0 ?k0 ?a1 ?l1 ?c1 ?k1 ?a2 ?l2 ?c2 ?k2 ?a3 ?l3 ?c3 ?k3 ?a4 ?l4 ?c4 ?k4 ?a5 ?l5 ?c5 ?k5 ?a6 ?l6 ?c6 ?k6 ?a7 ?l7 ?c7 ?k7 ?a8 ?l8 ?c8 ?k8 ?a9 ?l9 ?c9 ?k9 ?a10 ?l10 ?c10 ?k10 ?a11 ?l11 ?c11 ?k11 ?a12 ?l12 ?c12 ?k12 ?b_bool ?b_int ?b_isinstance ?b_len ?b_list ?b_max ?b_min ?b_range ?b_sorted ?b_str ?b_tuple ?q_LETTERS ?q_MIRROR_FIGURES ?q_NEVER ?q_NEVER_SIGN ?q_TOLD_TURNS ?r_TOLD_TURNS ?q_TURN_FIGURES ?knl
    (case a0 => k_is)
    (case l0 => k_is)
    (case c0 => k_is)
    (case k0 => k_is)
    (case a1 => k_is)
    (case l1 => k_is)
    (case c1 => k_is)
    (case k1 => k_is)
    (case a2 => k_is)
    (case l2 => k_is)
    (case c2 => k_is)
    (case k2 => k_is)
    (case a3 => k_is)
    (case l3 => k_is)
    (case c3 => k_is)
    (case k3 => k_is)
    (case a4 => k_is)
    (case l4 => k_is)
    (case c4 => k_is)
    (case k4 => k_is)
    (case a5 => k_is)
    (case l5 => k_is)
    (case c5 => k_is)
    (case k5 => k_is)
    (case a6 => k_is)
    (case l6 => k_is)
    (case c6 => k_is)
    (case k6 => k_is)
    (case a7 => k_is)
    (case l7 => k_is)
    (case c7 => k_is)
    (case k7 => k_is)
    (case a8 => k_is)
    (case l8 => k_is)
    (case c8 => k_is)
    (case k8 => k_is)
    (case a9 => k_is)
    (case l9 => k_is)
    (case c9 => k_is)
    (case k9 => k_is)
    (case a10 => k_is)
    (case l10 => k_is)
    (case c10 => k_is)
    (case k10 => k_is)
    (case a11 => k_is)
    (case l11 => k_is)
    (case c11 => k_is)
    (case k11 => k_is)
    (case a12 => k_is)
    (case l12 => k_is)
    (case c12 => k_is)
    (case k12 => k_is)
    (case b_bool => k_is)
    (case b_int => k_is)
    (case b_isinstance => k_is)
    (case b_len => k_is)
    (case b_list => k_is)
    (case b_max => k_is)
    (case b_min => k_is)
    (case b_range => k_is)
    (case b_sorted => k_is)
    (case b_str => k_is)
    (case b_tuple => k_is)
    (case q_LETTERS => k_is)
    (case q_MIRROR_FIGURES => k_is)
    (case q_NEVER => k_is)
    (case q_NEVER_SIGN => k_is)
    (case q_TOLD_TURNS => k_is)
    (case r_TOLD_TURNS => k_is)
    (case q_TURN_FIGURES => k_is)
    (case knl => kernel_rfl)
